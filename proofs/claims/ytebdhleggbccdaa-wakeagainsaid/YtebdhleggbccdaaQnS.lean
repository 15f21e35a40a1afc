/- Next of a queue of string keys: all are gone through, in whatever order. -/
import Derived.Test.YtebdhleggbccdaaQbS
namespace Go.Proofs.Ytebdhleggbccdaa.ks
open Go.RowKit Go.Maps

theorem invK : ∀ key kl, keyOf Try.prog 9 key = some kl → ∃ x : ByteArray, key = (.string x) := fun key kl h => by
  obtain ⟨x, rfl, _⟩ := key_inv h
  exact ⟨x, rfl⟩
theorem invV : ∀ v y, turnR v = some y → ∃ c : Int × Int, v = .agg #[.int .i64 c.1, .int .i64 c.2] := fun v y h => by
  obtain ⟨a, s, rfl, _⟩ := turnR_inv h
  exact ⟨(a, s), rfl⟩
/-- The entry that has come is one of the queue's. -/
theorem came {D : DataW Unit} {L : List (En ByteArray)} (hr : RepQ KL D L) {x : ByteArray} {c : Int × Int} {kl : Lit} {yd : DataW Unit} {yp : List MemPlace} (hk : keyOf Try.prog 9 (.string x) = some kl) (hv : turnR (.agg #[.int .i64 c.1, .int .i64 c.2]) = some (yd, yp)) (hat : ∀ zd, D.atKey kl zd = yd) :
    kl = KL x ∧ (x, c.1, c.2) ∈ L := by
  obtain ⟨x', ex, rfl, _⟩ := key_inv hk
  have e1 : x = x' := by injection ex
  subst e1
  obtain ⟨e, he, h1, h2⟩ := hr.come hat
  have e2 := KL_inj _ _ h1
  rw [turnR_mk] at hv
  injection hv with hv
  injection hv with hv _
  rw [← hv] at h2
  simp [dT] at h2
  refine ⟨rfl, ?_⟩
  have : e = (x, c.1, c.2) := by
    obtain ⟨e1, e2', e3⟩ := e
    simp at e2 h2
    simp [e2, h2.1, h2.2]
  exact this ▸ he

set_option maxRecDepth 100000 in
set_option maxHeartbeats 2000000 in
theorem next_any {w : World} {base b m s : Nat} {L : List (En ByteArray)} (h : Q w base b m s L) (hne : L ≠ []) :
    Calls Try.prog 14 #[.pointer (some ⟨b, 0, none⟩)] w fun e w' => (∃ n, IsNext L n ∧ e = .returned (.tuple #[.int .i64 n, .bool true])) ∧ Below w.heap.size w w' := by
  obtain ⟨D, ho, hr⟩ := h.map
  have f0 := h.facts.1
  have h0 : ¬ L.length = 0 := by simpa using hne
  have H := Lib.hid h
  have HN := Lib.hid hne
  have HO := Lib.hid ho
  have HR := Lib.hid hr
  have KLn := len_any h
  clear h hne ho hr
  generalize hl : L.length = l at *
  clear hl
  go_enter Try.func14, Try.ntmps14
  go_wp2_with fail
  refine KLn.mono ?_
  rintro e w1 ⟨rfl, rfl⟩
  clear KLn
  go_wp2_with (at_range; refine wpList_range_own _ rfl _ 56 rfl 9 61 keyed Try.underlying56 turnR m s D rfl HO.out ?_; intro w0 hrg0 hg0 hs0; have HG0 := Lib.hid (And.intro hrg0 (And.intro hg0 hs0)); clear hrg0 hg0 hs0)
  go_frame
  go_loopw [4] (fun v4 wr => ∃ (f : Int), v4 = .int .i64 f ∧ Hid (∃ left cnt, wr.ranges Try.prog 9 turnR m w1.heap.size s D left cnt ∧ Least KL L left f ∧ Below w1.heap.size w1 wr)) (fun _ wr => wr.rangeLeft m w1.heap.size)
  case atStart => exact ⟨_, rfl, Lib.hid ⟨_, _, HG0.out.1, least_start HR.out, Below.grown (Below.refl _ _) HG0.out.2.1 (Nat.le_refl _) (by simp)⟩⟩
  case round =>
    clear HG0 f0
    obtain ⟨f, rfl, RW⟩ := hrel
    obtain ⟨left, cnt, hrg, hle, hbw⟩ := RW.out
    have hms : wr.rangeLeft m w1.heap.size = cnt := hrg.left_eq
    have hsz := hrg.lt
    have R := Lib.hid (And.intro hle hbw)
    clear RW hle hbw
    go_wp2_with (at_next; refine wpList_next_ranges _ rfl _ rfl 9 keyed turnR (fun x : ByteArray => (.string x)) (fun c : Int × Int => .agg #[.int .i64 c.1, .int .i64 c.2]) invK invV m w1.heap.size s D left cnt rfl hrg ?_ ?_)
    · intro _ hl0
      have HL := Lib.hid hl0
      clear hl0
      go_wp2
      go_ret2
      exact ⟨⟨f, R.out.1.done H.out.ok HL.out HN.out, rfl⟩, R.out.2⟩
    · intro x a t kl yd yp w2 cnt2 hkey hlk hv hat hrg2 hlt hg2 hs2 hen
      obtain ⟨rfl, hin⟩ := came (c := (a, t)) HR.out hkey hv hat
      have hb2 : Below w1.heap.size w1 w2 := Below.grown R.out.2 hg2 (by omega) (by simp)
      have N := Lib.hid (And.intro hrg2 (And.intro (R.out.1.step KL_inj H.out.ok hin) (And.intro hb2 (And.intro hlt hs2))))
      clear hkey hlk hv hat hrg2 hlt hg2 hs2 hin hb2
      go_wp2
      obtain ⟨n1, n2, n3, n4, n5⟩ := N.out
      have hrg3 := n1.alloc (.cells #[.int .i64 a, .int .i64 t] 61)
      refine ⟨Lib.hid ⟨_, ⟨_, hrg3⟩, n2, n3.alloc n3.size _⟩, ?_⟩
      rw [hrg3.left_eq]
      exact n4
theorem next_none {w : World} {base b m s : Nat} (h : Q w base b m s []) : Calls Try.prog 14 #[.pointer (some ⟨b, 0, none⟩)] w fun e w' => e = .returned (.tuple #[.int .i64 0, .bool false]) ∧ w' = w := by
  have KLn := len_any h
  simp only [List.length_nil] at KLn
  clear h
  go_enter Try.func14, Try.ntmps14
  go_wp2_with fail
  refine KLn.mono ?_
  rintro e w1 ⟨rfl, rfl⟩
  clear KLn
  go_wp2
  go_ret2
  exact ⟨rfl, rfl⟩
theorem next_nil (w : World) : Calls Try.prog 14 #[.pointer none] w fun e w' => e = .returned (.tuple #[.int .i64 0, .bool false]) ∧ w' = w := by
  go_enter Try.func14, Try.ntmps14
  go_wp2_with fail
  refine (len_nil _).mono ?_
  rintro e w1 ⟨rfl, rfl⟩
  go_wp2
  go_ret2
  exact ⟨rfl, rfl⟩
end Go.Proofs.Ytebdhleggbccdaa.ks
