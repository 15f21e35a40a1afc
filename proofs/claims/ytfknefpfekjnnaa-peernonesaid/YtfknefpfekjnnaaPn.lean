/- New of package peer, and the document's. -/
import Derived.Test.YtfknefpfekjnnaaPa
import Derived.Test.YtfknefpfekjnnaaRchk
namespace Go.Proofs.Ytfknefpfekjnnaa
open Go.RowKit

/-- New's error. -/
def pnewE (c : Cfg) (h : Int) : Int := if checkOf c = 0 then (if hm h = true then 0 else 3) else checkOf c
def Pr.new (c : Cfg) (h : Int) : Pr := ⟨c.l, c.m, c.d, c.l, 0, 0, h, 0, 0, 0⟩
theorem check_nums {c : Cfg} (h : checkOf c = 0) : c.S.length ≤ 16 ∧ numsOk c := by
  unfold checkOf at h
  split at h; · omega
  split at h; · omega
  split at h; · omega
  split at h
  · rename_i h1 _ h2; exact ⟨by omega, h2⟩
  · omega
theorem pnewE_ok {c : Cfg} {h : Int} (e : pnewE c h = 0) : checkOf c = 0 ∧ hm h = true := by
  unfold pnewE at e
  split at e
  · rename_i h0
    refine ⟨h0, ?_⟩
    cases hh : hm h with
    | true => rfl
    | false => rw [hh] at e; simp at e
  · omega
theorem Pr.new_ok {c : Cfg} {h : Int} (e : pnewE c h = 0) : (Pr.new c h).Ok := by
  obtain ⟨e1, e2⟩ := pnewE_ok e
  obtain ⟨_, ⟨_, _⟩, ⟨_, _⟩, ⟨_, _⟩, ⟨_, _⟩, _⟩ := check_nums e1
  have := hm_t e2
  constructor <;> simp only [Pr.new] <;> first | omega | simp
theorem bel_box {w w1 : World} {o : Obj} (hb : Below (w.alloc o).heap.size (w.alloc o) w1) : w1.heap[w.heap.size]? = some o ∧ Below w.heap.size w w1 := by
  have e : (w.alloc o).heap.size = w.heap.size + 1 := by simp
  refine ⟨(hb.block _ (by omega)).trans (heap_alloc_new w o), (bel_alloc w o).trans (hb.mono (by omega))⟩
section
variable (v : Value) (c : Cfg) (w : World) (hs : Ints w v c.S) (h : Int)
include hs
set_option maxHeartbeats 1000000 in
theorem pnew_bad (he : pnewE c h ≠ 0) : Calls Try.prog 11 #[cval v c, .int .i64 h] w fun e w' => e = .returned (.tuple #[.pointer none, .int .i64 (pnewE c h)]) ∧ Below w.heap.size w w' := by
  have KC := Lib.hid (fun o => check_all v c (w.alloc o) (hs.alloc o))
  have KH := Lib.hid (fun w => hm_any h w)
  unfold pnewE at *
  obtain ⟨S, q, l, m, d, s⟩ := c
  generalize checkOf (Cfg.mk S q l m d s) = C at *
  unfold cval at *
  simp only at *
  clear hs
  by_cases h0 : C = 0
  · subst h0
    rw [if_pos rfl] at he ⊢
    have hh : hm h = false := by cases hh : hm h with | false => rfl | true => rw [hh] at he; exact absurd rfl he
    rw [hh] at KH ⊢
    clear he hh
    go_enter Try.func11, Try.ntmps11
    go_wp2_with fail
    refine (KC.out _).mono ?_
    rintro e w1 ⟨rfl, hb⟩
    have HB := Lib.hid (bel_box hb).2
    clear hb
    go_wp2_with fail
    refine (KH.out _).mono ?_
    rintro e w2 ⟨rfl, rfl⟩
    go_wp2
    go_ret2
    exact ⟨rfl, HB.out⟩
  · rw [if_neg h0]
    have h1 : ((C : Int) == 0) = false := by simp; omega
    clear he KH
    go_enter Try.func11, Try.ntmps11
    go_wp2_with fail
    refine (KC.out _).mono ?_
    rintro e w1 ⟨rfl, hb⟩
    have HB := Lib.hid (bel_box hb).2
    clear hb
    go_wp2
    go_ret2
    exact ⟨rfl, HB.out⟩
set_option maxHeartbeats 1000000 in
theorem pnew_ok (he : pnewE c h = 0) : Calls Try.prog 11 #[cval v c, .int .i64 h] w fun e w' =>
    ∃ p b, e = .returned (.tuple #[.pointer (some ⟨p, 0, none⟩), .int .i64 0]) ∧ w.heap.size ≤ p ∧ w.heap.size ≤ b ∧ Pe w' p b (Pr.new c h) ∧ Below w.heap.size w w' := by
  obtain ⟨e1, e2⟩ := pnewE_ok he
  have KC := Lib.hid (fun o => check_all v c (w.alloc o) (hs.alloc o))
  have KH := Lib.hid (fun w => hm_any h w)
  rw [e1] at KC
  rw [e2] at KH
  obtain ⟨_, ⟨_, _⟩, ⟨l1, l2⟩, ⟨m1, m2⟩, ⟨d1, d2⟩, _⟩ := check_nums e1
  have KN := Lib.hid (fun w => new_ex (w := w) (newE_in l1 m1 m2))
  have hw : IntKind.i64.wrap (c.d * 1000000) = c.d * 1000000 := IntWalk.i64_in _ (by omega)
  obtain ⟨S, q, l, m, d, s⟩ := c
  unfold cval Pr.new at *
  simp only at *
  clear hs e1 e2 he l1 l2 m1 m2 d1 d2
  go_enter Try.func11, Try.ntmps11
  go_wp2_with fail
  refine (KC.out _).mono ?_
  rintro e w1 ⟨rfl, hb⟩
  have HB := Lib.hid (bel_box hb)
  have f2 : w1.cell? ⟨w.heap.size, 2, none⟩ = some (.int .i64 l) := cell_of_row _ _ 2 _ _ _ HB.out.1
  have f3 : w1.cell? ⟨w.heap.size, 3, none⟩ = some (.int .i64 m) := cell_of_row _ _ 3 _ _ _ HB.out.1
  clear hb
  go_wp2_with fail
  refine (KH.out _).mono ?_
  rintro e w2 ⟨rfl, rfl⟩
  go_wp2_with fail
  refine (KN.out _).mono ?_
  rintro e w3 ⟨b, rfl, ho, hbk, hb3⟩
  have H3 := Lib.hid (And.intro hbk (And.intro (Nat.le_trans HB.out.2.size ho) (bel_trans HB.out.2 hb3)))
  have f4 : w3.cell? ⟨w.heap.size, 4, none⟩ = some (.int .i64 d) := (hb3.cell (p := ⟨w.heap.size, 4, none⟩) (heap_lt HB.out.1)).trans (cell_of_row _ _ 4 _ _ _ HB.out.1)
  clear f2 f3 hbk hb3 ho
  go_wp2
  go_ret2
  refine ⟨w3.heap.size, b, rfl, H3.out.2.2.size, H3.out.2.1, ⟨heap_alloc_new _ _, H3.out.1.below (bel_alloc _ _)⟩, bel_trans H3.out.2.2 (bel_alloc _ _)⟩
end
end Go.Proofs.Ytfknefpfekjnnaa
