/- Due of a queue of string keys: those that are due, in whatever order; sorted; their keys. -/
import Derived.Test.YtebdhleggbccdaaQnS
import Derived.Test.YtebdhleggbccdaaCmp
import Derived.WalkMore
namespace Go.Proofs.Ytebdhleggbccdaa.ks
open Go.RowKit Go.Maps Go.Sort

/-- An entry's cells. -/
abbrev enE (e : En ByteArray) : List Value := [(.string e.1), .int .i64 e.2.1, .int .i64 e.2.2]
theorem enE_len (e : En ByteArray) : (enE e).length = 3 := rfl
theorem enE_one (e : En ByteArray) : ∀ v ∈ enE e, v.oneCell' = true := by simp [enE, Value.oneCell']
theorem info_e : (Try.prog.info? 69).map (fun i => (i.zero, i.size, i.bytes)) = some (some (.agg #[.string ⟨#[]⟩, .int .i64 0, .int .i64 0]), 3, 32) := by kernel_rfl

set_option maxRecDepth 100000 in
set_option maxHeartbeats 4000000 in
theorem upTo_any {w : World} {base b m s : Nat} {L : List (En ByteArray)} (h : Q w base b m s L) (hL : L.length ≤ 1000) (lim : Int) :
    Calls Try.prog 29 #[.pointer (some ⟨b, 0, none⟩), .int .i64 lim] w fun e w' => ∃ v es, e = .returned v ∧ es.Perm (dueF lim L) ∧ w'.ownsRow w.heap.size 69 3 v es.length (flat enE es) ∧ Below w.heap.size w w' := by
  obtain ⟨D, ho, hr⟩ := h.map
  have f0 := h.facts.1
  have H := Lib.hid h
  have HO := Lib.hid ho
  have HR := Lib.hid hr
  have hz := Lib.hid hr.size
  have HL := Lib.hid hL
  clear h ho hr hL
  go_enter Try.func29, Try.ntmps29
  go_wp2_with (at_range; refine wpList_range_own _ rfl _ 56 rfl 9 61 keyed Try.underlying56 turnR m s D rfl HO.out ?_; intro w0 hrg0 hg0 hs0; have HG0 := Lib.hid (And.intro hrg0 (And.intro hg0 hs0)); clear hrg0 hg0 hs0)
  go_frame
  go_loopw [5] (fun v5 wr => Hid (∃ es left cnt, wr.ranges Try.prog 9 turnR m w.heap.size s D left cnt ∧ Coll KL lim L left es ∧ es.length + cnt ≤ L.length ∧ wr.ownsRow w.heap.size 69 3 v5 es.length (flat enE es) ∧ Below w.heap.size w wr)) (fun _ wr => wr.rangeLeft m w.heap.size)
  case atStart => exact Lib.hid ⟨[], _, _, HG0.out.1, coll_start HR.out lim, by rw [hz.out]; simp, by simpa [flat] using World.ownsRow_nil _ _ _ _, Below.grown (Below.refl _ _) HG0.out.2.1 (Nat.le_refl _) (by simp)⟩
  case round =>
    clear HG0 f0
    obtain ⟨es, left, cnt, hrg, hc, hn, hrow, hbw⟩ := hrel.out
    have hms : wr.rangeLeft m w.heap.size = cnt := hrg.left_eq
    have hsz := hrg.lt
    obtain ⟨A5, c5, rfl, _, _⟩ := own_len hrow
    have R := Lib.hid (And.intro hc (And.intro hn (And.intro hrow hbw)))
    clear hrel hc hn hrow hbw
    go_wp2_with (at_next; refine wpList_next_ranges _ rfl _ rfl 9 keyed turnR (fun x : ByteArray => (.string x)) (fun c : Int × Int => .agg #[.int .i64 c.1, .int .i64 c.2]) invK invV m w.heap.size s D left cnt rfl hrg ?_ ?_)
    · intro _ hl0
      have HL := Lib.hid hl0
      clear hl0
      go_wp2
      go_ret
      exact ⟨_, es, rfl, R.out.1.done H.out.ok HL.out, R.out.2.2.1, R.out.2.2.2⟩
    · intro x a t kl yd yp w2 cnt2 hkey hlk hv hat hrg2 hlt hg2 hs2 hen
      obtain ⟨rfl, hin⟩ := came (c := (a, t)) HR.out hkey hv hat
      have hb2 : Below w.heap.size w w2 := Below.grown R.out.2.2.2 hg2 (by omega) (by simp)
      have hrow2 : w2.ownsRow w.heap.size 69 3 (.slice A5 es.length c5) es.length (flat enE es) := own_kept R.out.2.2.1 fun p hp hl => hg2.block p hl (fun e => by
        injection e with e
        subst e
        obtain ⟨_, _, cur, hcur⟩ := own_lt R.out.2.2.1 hp
        obtain ⟨_, _, _, _, _, _, _, _, _, hit, _⟩ := hrg
        rw [hcur] at hit
        cases hit)
      have N := Lib.hid (And.intro hrg2 (And.intro hin (And.intro hb2 (And.intro hlt (And.intro hs2 (And.intro hrow2 hlk))))))
      clear hkey hlk hv hat hrg2 hlt hg2 hs2 hin hb2 hrow2 hrg hsz
      have hn1 : es.length + 1 ≤ 1001 := by have := R.out.2.1; have := HL.out; omega
      by_cases hle : a ≤ lim
      · go_wp2_with (at_builtin; refine append_src rfl (.tmp 24) (.tmp 28) 65 rfl w.heap.size 69 _ 3 _ Try.underlying65 info_e rfl (by decide) (.slice A5 es.length c5) es.length (flat enE es) rfl (own_below N.out.2.2.2.2.2.1 (bel_two _ _ _) (Nat.le_refl _)) (some ⟨w2.heap.size + 1, 0, none⟩) 1 1 (enE (x, a, t)) rfl rfl (fun h => by cases h) (lies_new2 _ _ _ _) (enE_one _) (by unfold maxLen; omega) (by omega) (by have := N.out.2.2.1.size; simp; omega) ?_; intro v3 w3 ho3 hg3 _; have M := Lib.hid (And.intro ho3 hg3); clear ho3 hg3)
        obtain ⟨n1, n2, n3, n4, n5, n6, n7⟩ := N.out
        have hb3 : RowKit.Below w2.heap.size w2 ((w2.alloc (.cells #[.int .i64 a, .int .i64 t] 61)).alloc (.cells #[(.string x), .int .i64 a, .int .i64 t] 69)) := bel_two _ _ _
        have hrg2 := (n1.alloc (.cells #[.int .i64 a, .int .i64 t] 61)).alloc (.cells #[(.string x), .int .i64 a, .int .i64 t] 69)
        have hmb : m ≠ w.heap.size := by have := H.out.ltm; omega
        have no : ∀ (p : Nat), (Value.slice A5 es.length c5).ownBlock = some p → p ≠ m ∧ p ≠ w.heap.size := fun p hp => by
          obtain ⟨h1, _, cur, hcur⟩ := own_lt (own_below n6 hb3 (Nat.le_refl _)) hp
          refine ⟨by have := H.out.ltm; omega, fun e => ?_⟩
          subst e
          obtain ⟨_, _, _, _, _, _, _, _, _, hit, _⟩ := hrg2
          rw [hcur] at hit
          cases hit
        have hrg3 := hrg2.kept M.out.2 (fun e => (no m e.symm).1 rfl) (fun e => (no w.heap.size e.symm).2 rfl)
        have c2 := R.out.1.step KL_inj H.out.ok n2 n7 (KL_key (H.out.kok _ n2)) hle
        refine ⟨Lib.hid ⟨es ++ [(x, a, t)], _, _, hrg3, c2, by have := R.out.2.1; simp; omega, ?_, ?_⟩, ?_⟩
        · rw [flat_append, flat_one, List.length_append]
          exact M.out.1
        · exact bel_grown (bel_trans n3 hb3) (by have := n3.size; simp; omega) (own_below n6 hb3 (Nat.le_refl _)) (Nat.le_refl _) M.out.2
        · rw [hrg3.left_eq, hms]
          exact n4
      · go_wp2
        obtain ⟨n1, n2, n3, n4, n5, n6, n7⟩ := N.out
        have hrg3 := n1.alloc (.cells #[.int .i64 a, .int .i64 t] 61)
        refine ⟨Lib.hid ⟨es, _, _, hrg3, R.out.1.skip KL_inj H.out.ok n2 hle, by have := R.out.2.1; omega, own_below n6 ((Below.refl _ _).alloc (Nat.le_refl _) _) (Nat.le_refl _), n3.alloc n3.size _⟩, ?_⟩
        rw [hrg3.left_eq, hms]
        exact n4
theorem upTo_nil (lim : Int) (w : World) : Calls Try.prog 29 #[.pointer none, .int .i64 lim] w fun e w' => e = .returned (.slice none 0 0) ∧ w' = w := by
  go_enter Try.func29, Try.ntmps29
  go_wp2
  go_ret
  exact ⟨rfl, rfl⟩

/-! The sort. -/
theorem isort_none (p : Option Addr) (cap : Nat) (fv : Value) (w : World) : Calls Try.prog 45 #[.slice p 0 cap, .int .i64 0, .int .i64 0, fv] w fun e w' => e = .returned (.tuple #[]) ∧ w' = w := by
  go_enter Try.func45, Try.ntmps45
  go_wp2
  refine wp_loop_rounds 1 ?_
  rw [rounds_succ]
  go_wp2
  go_end0
  exact ⟨rfl, rfl⟩
theorem pdq_none (p : Option Addr) (cap : Nat) (lim : Int) (fv : Value) (w : World) : Calls Try.prog 38 #[.slice p 0 cap, .int .i64 0, .int .i64 0, .int .i64 lim, fv] w fun e w' => e = .returned (.tuple #[]) ∧ w' = w := by
  go_enter Try.func38, Try.ntmps38
  go_wp2
  refine wp_loop_rounds 1 ?_
  rw [rounds_succ]
  go_wp2_with fail
  refine (isort_none _ _ _ _).mono ?_
  rintro e w1 ⟨rfl, rfl⟩
  go_wp2
  (try simp only [Exit.inBlock, Exit.then])
  refine bodyPost_ret (results_none rfl _ _ _) rfl ?_
  exact ⟨rfl, rfl⟩
theorem sort_none (p : Option Addr) (cap : Nat) (fv : Value) (w : World) : Calls Try.prog 30 #[.slice p 0 cap, fv] w fun e w' => e = .returned (.tuple #[]) ∧ w' = w := by
  go_enter Try.func30, Try.ntmps30
  go_wp2_with fail
  refine (Try.bits_Len 0 _ (by omega) (by omega)).mono ?_
  rintro e w1 ⟨rfl, rfl⟩
  go_wp2_with fail
  refine (pdq_none _ _ _ _ _).mono ?_
  rintro e w2 ⟨rfl, rfl⟩
  go_wp2
  go_end0
  exact ⟨rfl, rfl⟩
set_option maxRecDepth 100000 in
theorem closure_any (x y : En ByteArray) (w : World) : Calls Try.prog 31 #[.agg #[(.string x.1), .int .i64 x.2.1, .int .i64 x.2.2], .agg #[(.string y.1), .int .i64 y.2.1, .int .i64 y.2.2]] w fun e w' => e = .returned (.int .i64 (cmpE x y)) ∧ ∃ q os', w' = grow (w.drewN q) os' := by
  obtain ⟨x1, x2, x3⟩ := x
  obtain ⟨y1, y2, y3⟩ := y
  have hc := fun W => compare_any x2 x3 y2 y3 W
  show Calls Try.prog 31 _ w fun e w' => e = .returned (.int .i64 (if Lib.compareInt x2 y2 = 0 then Lib.compareInt x3 y3 else Lib.compareInt x2 y2)) ∧ _
  generalize (if Lib.compareInt x2 y2 = 0 then Lib.compareInt x3 y3 else Lib.compareInt x2 y2) = r at *
  have HC := Lib.hid hc
  clear hc
  go_enter Try.func31, Try.ntmps31
  go_wp2_with fail
  refine (HC.out _).mono ?_
  rintro e w1 ⟨rfl, q, os, rfl⟩
  go_wp2
  go_ret
  exact ⟨rfl, q, _, grow2 _ _ _ _ _⟩
theorem sort_any {w : World} {base g c : Nat} (es : List (En ByteArray)) (h0 : 0 < es.length) (h1 : es.length ≤ 1000) (ho : w.ownsRow base 69 3 (.slice (some ⟨g, 0, none⟩) es.length c) es.length (flat enE es)) :
    Calls Try.prog 30 #[.slice (some ⟨g, 0, none⟩) es.length c, .func (.func 31) #[] #[]] w fun e w' =>
      e = .returned (.tuple #[]) ∧ ∃ l : List (En ByteArray), l.Perm es ∧ (l.Pairwise fun x y => leE x y = true) ∧ Lies w' (some ⟨g, 0, none⟩) (flat enE l) ∧ (∀ B, B ≤ g → ∀ w0, Below B w0 w → Below B w0 w') := by
  have hg := (own_lt (p := g) ho rfl)
  have hH := own_holds enE_len ho
  have eg : ∀ args w, (callFunc 31 args).run Try.prog w = .ok (.enter 31 args) w := enters_of Try.func31 (by kernel_rfl) rfl
  have hs : es.toArray.size = es.length := by simp
  have hcmp : CmpLays Try.prog 31 #[] enE 3 cmpE g 0 es.toArray.size w := fun _ _ _ _ x y => closure_any x y _
  have hcon := AnyQ.slices_SortFunc Try.sort30 3 Try.isAgg69 Try.sizeOf69 enE enE_len enE_one cmpE swo_cmpE 31 #[] g 0 c es.toArray w eg hcmp hH hg.2.1 (by rw [hs]; omega)
  change Calls Try.prog 30 _ _ _ at hcon
  rw [hs] at hcon
  refine hcon.mono ?_
  rintro e w' ⟨rfl, d', n, os, hp, hso, rfl⟩
  refine ⟨rfl, d'.toList, perm_of hp, sorted_of hp hso, ?_, fun B hB w0 hb => below_sort hb (by have := hg.2.1; omega) hB⟩
  exact holds_lies enE_len (holdsK_sortWorldK enE 3 w g 0 n es.toArray d' os hg.2.1 hH hp.1) (lt_sortWorldK enE 3 w g 0 n d' os hg.2.1)
end Go.Proofs.Ytebdhleggbccdaa.ks
