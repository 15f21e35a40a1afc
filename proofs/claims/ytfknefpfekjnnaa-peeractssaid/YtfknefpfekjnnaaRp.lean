/- The document's peer: its calls but for New and Answer. -/
import Derived.Test.YtfknefpfekjnnaaPn
import Derived.Test.YtfknefpfekjnnaaBref
import Derived.Test.YtfknefpfekjnnaaLay
import Derived.StillTailTactics
namespace Go.Proofs.Ytfknefpfekjnnaa
open Go.RowKit

abbrev Pr.rcells (k : Pr) (v : Value) (q s : Int) : Array Value := #[v, .int .i64 q, .int .i64 k.l, .int .i64 k.m, .int .i64 k.d, .int .i64 s, .int .i64 k.st, .int .i64 k.n, .int .i64 k.due, .int .i64 k.sent, .int .i64 k.clk, .int .u64 k.ck]
/-- The document's peer lies in block r. -/
def Re (w : World) (r : Nat) (k : Pr) : Prop := ∃ v q s, w.heap[r]? = some (.cells (k.rcells v q s) 45 (0, 0))
theorem Re.lt {w : World} {r : Nat} {k : Pr} (h : Re w r k) : r < w.heap.size := by obtain ⟨v, q, s, h⟩ := h; exact heap_lt h
theorem Re.below {w w' : World} {r : Nat} {k : Pr} (h : Re w r k) (hb : Below w.heap.size w w') : Re w' r k := by obtain ⟨v, q, s, h⟩ := h; exact ⟨v, q, s, (hb.block r (heap_lt h)).trans h⟩
theorem Re.two {w w' : World} {p b r : Nat} {k : Pr} (h : Re w r k) (ht : Two p b w w') (h1 : r ≠ p) (h2 : r ≠ b) : Re w' r k := by obtain ⟨v, q, s, h⟩ := h; exact ⟨v, q, s, (ht.block r (heap_lt h) h1 h2).trans h⟩
theorem Re.facts {w : World} {r : Nat} {k : Pr} (h : Re w r k) : w.cell? ⟨r, 2, none⟩ = some (.int .i64 k.l) ∧ w.cell? ⟨r, 3, none⟩ = some (.int .i64 k.m) ∧ w.cell? ⟨r, 4, none⟩ = some (.int .i64 k.d) ∧ w.cell? ⟨r, 6, none⟩ = some (.int .i64 k.st) ∧ w.cell? ⟨r, 7, none⟩ = some (.int .i64 k.n) ∧ w.cell? ⟨r, 8, none⟩ = some (.int .i64 k.due) ∧ w.cell? ⟨r, 9, none⟩ = some (.int .i64 k.sent) ∧ w.cell? ⟨r, 10, none⟩ = some (.int .i64 k.clk) ∧ w.cell? ⟨r, 11, none⟩ = some (.int .u64 k.ck) := by
  obtain ⟨v, q, s, h⟩ := h
  exact ⟨cell_of_row _ _ 2 _ _ _ h, cell_of_row _ _ 3 _ _ _ h, cell_of_row _ _ 4 _ _ _ h, cell_of_row _ _ 6 _ _ _ h, cell_of_row _ _ 7 _ _ _ h, cell_of_row _ _ 8 _ _ _ h, cell_of_row _ _ 9 _ _ _ h, cell_of_row _ _ 10 _ _ _ h, cell_of_row _ _ 11 _ _ _ h⟩
theorem Re.frozen {w : World} {r : Nat} {k : Pr} (h : Re w r k) (j : Nat) : w.frozen? ⟨r, j, none⟩ = false := by obtain ⟨v, q, s, h⟩ := h; exact frozen_row h j

section
variable (r : Nat) (k : Pr) (w : World) (h : Re w r k)
include h
theorem risdue_any (x : Int) : Calls Try.prog 21 #[.pointer (some ⟨r, 0, none⟩), .int .i64 x] w fun e w' => e = .returned (.bool (k.isDue x)) ∧ w = w' := by
  obtain ⟨f2, f3, f4, f6, f7, f8, f9, f10, f11⟩ := h.facts
  clear h f2 f3 f4 f7 f9 f10 f11
  obtain ⟨l, m, d, n, t, st, due, sent, clk, ck⟩ := k
  simp only [Pr.isDue] at *
  by_cases hs : st = 0
  · subst hs
    go_enter Try.func21, Try.ntmps21
    go_wp2
    go_ret
    simp
  · have h1 : (st == 0) = false := by simp [hs]
    go_enter Try.func21, Try.ntmps21
    go_wp2
    go_ret
    simp [hs]
set_option maxHeartbeats 1000000 in
theorem rislate_any (o : k.Ok) (x : Int) : Calls Try.prog 38 #[.pointer (some ⟨r, 0, none⟩), .int .i64 x] w fun e w' => e = .returned (.bool (k.isLate x)) ∧ Below w.heap.size w w' := by
  obtain ⟨f2, f3, f4, f6, f7, f8, f9, f10, f11⟩ := h.facts
  have hl := o.last
  have s1 := o.s1
  have s2 := o.s2
  unfold Pr.isLate
  unfold Pr.last at hl ⊢
  clear h f2 f3 f7 f8 f10 f11 o
  obtain ⟨l, m, d, n, t, st, due, sent, clk, ck⟩ := k
  simp only at *
  have hw1 : IntKind.i64.wrap (1000000 * d) = d * 1000000 := by rw [IntWalk.i64_in _ (by omega)]; omega
  have hw2 : IntKind.i64.wrap (sent + d * 1000000) = sent + d * 1000000 := IntWalk.i64_in _ (by omega)
  generalize d * 1000000 = D at *
  by_cases hs : st = 1
  · subst hs
    cases hd : decide (sent + D < x)
    all_goals
      go_enter Try.func38, Try.ntmps38
      go_wp2
      go_quiet (fail)
      go_wp2
      go_ret
      exact ⟨by simp_all, below_draws _⟩
  · have h1 : (st == 1) = false := by simp [hs]
    go_enter Try.func38, Try.ntmps38
    go_wp2
    go_quiet (fail)
    go_wp2
    go_ret
    exact ⟨by simp [hs], below_draws _⟩
set_option maxHeartbeats 1000000 in
theorem rnext_peer (o : k.Ok) : Calls Try.prog 25 #[.pointer (some ⟨r, 0, none⟩)] w fun e w' => e = .returned (.int .i64 k.next) ∧ Below w.heap.size w w' := by
  obtain ⟨f2, f3, f4, f6, f7, f8, f9, f10, f11⟩ := h.facts
  have hl := o.last
  have s1 := o.s1
  have s2 := o.s2
  have st3 := o.st3
  have u1 := o.u1
  have u2 := o.u2
  unfold Pr.next
  unfold Pr.last at hl ⊢
  clear h f2 f3 f7 f10 f11 o
  obtain ⟨l, m, d, n, t, st, due, sent, clk, ck⟩ := k
  simp only at *
  have hw1 : IntKind.i64.wrap (1000000 * d) = d * 1000000 := by rw [IntWalk.i64_in _ (by omega)]; omega
  have hw2 : IntKind.i64.wrap (sent + d * 1000000) = sent + d * 1000000 := IntWalk.i64_in _ (by omega)
  have hw3 : IntKind.i64.wrap (sent + d * 1000000 + 1) = sent + d * 1000000 + 1 := IntWalk.i64_in _ (by omega)
  generalize d * 1000000 = D at *
  by_cases hs : st = 0
  · subst hs
    rw [if_pos rfl]
    by_cases hd : 4611686018427387903 < due
    · rw [show min due 4611686018427387903 = 4611686018427387903 by omega]
      go_enter Try.func25, Try.ntmps25
      go_wp2
      go_ret
      exact ⟨rfl, Below.refl _ _⟩
    · rw [show min due 4611686018427387903 = due by omega]
      go_enter Try.func25, Try.ntmps25
      go_wp2
      go_ret
      exact ⟨rfl, Below.refl _ _⟩
  rw [if_neg hs]
  by_cases hs1 : st = 1
  · subst hs1
    rw [if_pos rfl]
    obtain ⟨L, hL⟩ : ∃ L, L = sent + D := ⟨_, rfl⟩
    have hw4 : IntKind.i64.wrap (sent + D) = L := hw2.trans hL.symm
    rw [← hL] at hw3 hl ⊢
    clear hL hw2
    by_cases hd : 4611686018427387903 < L + 1
    · rw [show min (L + 1) 4611686018427387903 = 4611686018427387903 by omega]
      go_enter Try.func25, Try.ntmps25
      go_wp2
      go_quiet (fail)
      go_wp2
      go_ret
      exact ⟨rfl, below_draws _⟩
    · rw [show min (L + 1) 4611686018427387903 = L + 1 by omega]
      go_enter Try.func25, Try.ntmps25
      go_wp2
      go_quiet (fail)
      go_wp2
      go_ret
      exact ⟨rfl, below_draws _⟩
  · obtain rfl : st = 2 := by omega
    rw [if_neg (by omega)]
    go_enter Try.func25, Try.ntmps25
    go_wp2
    go_ret
    exact ⟨rfl, Below.refl _ _⟩
end
theorem But.drew {b : Nat} {u w : World} (h : But b u w) : But b u w.drew := h.trans (But.of_below (below_draws 1))
theorem Re.set {w : World} {r : Nat} {v : Value} {q s : Int} {k : Pr} (h : w.heap[r]? = some (.cells (k.rcells v q s) 45 (0, 0))) (j : Nat) (x : Value) : (w.setCell ⟨r, j, none⟩ x).heap[r]? = some (.cells ((k.rcells v q s).setIfInBounds j x) 45 (0, 0)) := heap_setCell_same w r j x _ _ _ h
set_option maxRecDepth 100000 in
set_option maxHeartbeats 2000000 in
theorem ridle_any (r : Nat) (k : Pr) (w : World) (h : Re w r k) (o1 : 0 ≤ k.sent) (o2 : k.sent ≤ 4611686018427387903) (n1 : 0 ≤ k.n) (n2 : k.n ≤ 1024) : Calls Try.prog 40 #[.pointer (some ⟨r, 0, none⟩)] w fun e w' => e = .returned (.tuple #[]) ∧ Re w' r (k.rest k.n) ∧ But r w w' := by
  have p6 := h.frozen 6
  have p8 := h.frozen 8
  obtain ⟨f2, f3, f4, f6, f7, f8, f9, f10, f11⟩ := h.facts
  have HB := Lib.hid h
  have hw1 : IntKind.i64.wrap (1000000000 * k.n) = k.n * 1000000000 := by rw [IntWalk.i64_in _ (by omega)]; omega
  have hw2 : IntKind.i64.wrap (k.sent + k.n * 1000000000) = k.sent + k.n * 1000000000 := IntWalk.i64_in _ (by omega)
  clear h f2 f3 f4 f10 f11
  obtain ⟨l, m, d, n, t, st, due, sent, clk, ck⟩ := k
  simp only [Pr.rest] at *
  generalize n * 1000000000 = D at *
  obtain ⟨z, hz⟩ : ∃ z, z = sent + D := ⟨_, rfl⟩
  have hw4 : IntKind.i64.wrap (sent + D) = z := hw2.trans hz.symm
  rw [← hz]
  clear hz hw2
  go_enter Try.func40, Try.ntmps40
  go_wp2
  go_region
  go_wp2
  go_end0
  refine ⟨rfl, ?_, ?_⟩
  · obtain ⟨v, q, s, hb⟩ := HB.out
    exact ⟨v, q, s, heap_setCell_same _ r 8 (.int .i64 z) _ _ _ (heap_setCell_same w r 6 (.int .i64 0) _ _ _ hb)⟩
  · exact (((But.of_below (Below.refl _ _)).setCell 6 _).setCell 8 _).drew
theorem Re.setN {w : World} {r : Nat} {k : Pr} (h : Re w r k) (u t : Int) : Re (w.setCell ⟨r, 7, none⟩ (.int .i64 u)) r { k with n := u, t := t } := by
  obtain ⟨v, q, s, hb⟩ := h
  exact ⟨v, q, s, heap_setCell_same w r 7 (.int .i64 u) _ _ _ hb⟩
theorem Re.setSt {w : World} {r : Nat} {k : Pr} (h : Re w r k) (u : Int) : Re (w.setCell ⟨r, 6, none⟩ (.int .i64 u)) r { k with st := u } := by
  obtain ⟨v, q, s, hb⟩ := h
  exact ⟨v, q, s, heap_setCell_same w r 6 (.int .i64 u) _ _ _ hb⟩
set_option maxHeartbeats 1000000 in
theorem rlate_no (r : Nat) (k : Pr) (w : World) (h : Re w r k) (o : k.Ok) (x : Int) (hx : k.isLate x = false) : Calls Try.prog 16 #[.pointer (some ⟨r, 0, none⟩), .int .i64 x] w fun e w' => e = .returned (.bool false) ∧ Below w.heap.size w w' := by
  have K := Lib.hid (rislate_any r k w h o x)
  rw [hx] at K
  clear h o hx
  go_enter Try.func16, Try.ntmps16
  go_wp2_with fail
  refine K.out.mono ?_
  rintro e w1 ⟨rfl, hb⟩
  go_wp2
  go_ret
  exact ⟨rfl, hb⟩
set_option maxRecDepth 100000 in
set_option maxHeartbeats 2000000 in
theorem rlate_yes (r : Nat) (k : Pr) (w : World) (h : Re w r k) (o : k.Ok) (ht : k.t ≤ 1000000000000) (x : Int) (hx : k.isLate x = true) : Calls Try.prog 16 #[.pointer (some ⟨r, 0, none⟩), .int .i64 x] w fun e w' => e = .returned (.bool true) ∧ Re w' r k.fail ∧ But r w w' := by
  have K := Lib.hid (rislate_any r k w h o x)
  rw [hx] at K
  have hn := (o.bk ht).nx
  simp only [Pr.bk] at hn
  have KR := Lib.hid (fun w => rnext_any k.n k.m w (by have := o.l1; have := o.n1; omega) (by have := o.m1; have := o.n2; omega) (by have := o.lm; have := o.l1; omega) (by have := o.m1; omega))
  have KI := Lib.hid (fun w2 (h2 : Re w2 r { k with n := nx k.n k.m, t := k.t + 1 }) => ridle_any r _ w2 h2 o.s1 o.s2 (by have := o.l1; have := o.n1; simp only; omega) (by have := o.m1; simp only; omega))
  have HB := Lib.hid h
  clear h o hx ht hn
  obtain ⟨u, hu⟩ : ∃ u, u = nx k.n k.m := ⟨_, rfl⟩
  have HU := Lib.hid hu
  rw [← hu] at KR KI
  clear hu
  go_enter Try.func16, Try.ntmps16
  go_wp2_with fail
  refine K.out.mono ?_
  rintro e w1 ⟨rfl, hb⟩
  have H1 := Lib.hid (HB.out.below hb)
  have HB1 := Lib.hid hb
  clear hb
  go_wp2_with fail
  refine still_tail_any 13 (by kernel_rfl) (by kernel_rfl) ?_
  intro W eW
  simp only [List.take_succ_cons, List.take_zero, List.drop_succ_cons, List.drop_zero]
  have HW := Lib.hid (H1.out.below (show Below w1.heap.size w1 W by rw [eW]; exact below_draws 1))
  obtain ⟨f2, f3, f4, f6, f7, f8, f9, f10, f11⟩ := HW.out.facts
  have p7 := HW.out.frozen 7
  have EW := Lib.hid eW
  clear eW f2 f4 f6 f8 f9 f10 f11
  repeat still_step
  still_call ((KR.out _).mono fun _ _ h => ⟨h.1, h.2.symm⟩)
  repeat still_step
  refine wpStill_nil ?_
  have HS := Lib.hid (And.intro (HW.out.setN u (k.t + 1)) (((But.of_below (b := r) HB1.out).trans (But.of_below (b := r) (show Below w1.heap.size w1 W by rw [EW.out]; exact below_draws 1))).setCell 7 (.int .i64 u)))
  have KI1 := Lib.hid (KI.out _ HS.out.1)
  clear KI KR
  go_wp2_with fail
  refine KI1.out.mono ?_
  rintro e w3 ⟨rfl, h3, hb3⟩
  have H3 := Lib.hid (And.intro h3 (HS.out.2.trans hb3))
  clear h3 hb3
  go_wp2
  go_ret
  refine ⟨rfl, ?_, H3.out.2⟩
  have := H3.out.1
  rw [HU.out] at this
  exact this
theorem rlate_peer (r : Nat) (k : Pr) (w : World) (h : Re w r k) (o : k.Ok) (ht : k.t ≤ 1000000000000) (x : Int) : Calls Try.prog 16 #[.pointer (some ⟨r, 0, none⟩), .int .i64 x] w fun e w' => e = .returned (.bool (k.isLate x)) ∧ Re w' r (if k.isLate x = true then k.fail else k) ∧ But r w w' := by
  cases hl : k.isLate x with
  | true =>
    rw [if_pos rfl]
    exact rlate_yes r k w h o ht x hl
  | false =>
    rw [if_neg (by decide)]
    refine (rlate_no r k w h o x hl).mono ?_
    rintro e w' ⟨rfl, hb⟩
    exact ⟨rfl, h.below hb, But.of_below hb⟩

set_option maxHeartbeats 1000000 in
theorem rask_bad (r : Nat) (k : Pr) (w : World) (h : Re w r k) (x c ck : Int) (he : k.askE x ck ≠ 0) : Calls Try.prog 14 #[.pointer (some ⟨r, 0, none⟩), .int .i64 x, .int .i64 c, .int .u64 ck] w fun e w' => e = .returned (.tuple #[.slice none 0 0, .int .i64 (k.askE x ck)]) ∧ w = w' := by
  have KD := Lib.hid (risdue_any r k w h x)
  unfold Pr.askE at he ⊢
  clear h
  by_cases h1 : x < 0
  · rw [if_pos (show hm x = false from decide_eq_false (by omega))]
    clear he KD
    go_enter Try.func14, Try.ntmps14
    go_wp2
    go_ret2
    exact ⟨rfl, rfl⟩
  by_cases h2 : 4611686018427387903 < x
  · rw [if_pos (show hm x = false from decide_eq_false (by omega))]
    clear he KD
    go_enter Try.func14, Try.ntmps14
    go_wp2
    go_ret2
    exact ⟨rfl, rfl⟩
  have hm1 : ¬ hm x = false := by rw [show hm x = true from decide_eq_true (by omega)]; decide
  rw [if_neg hm1] at he ⊢
  clear hm1
  cases h3 : k.isDue x with
  | false =>
    rw [h3] at KD
    clear h3 he
    go_enter Try.func14, Try.ntmps14
    go_wp2_with fail
    refine KD.out.mono ?_
    rintro e w1 ⟨rfl, rfl⟩
    go_wp2
    go_ret2
    exact ⟨rfl, rfl⟩
  | true =>
    rw [h3] at KD he
    rw [if_neg (by decide)] at he ⊢
    have h4 : ck = 0 := by
      by_cases h4 : ck = 0
      · exact h4
      · rw [if_neg h4] at he; exact absurd rfl he
    subst h4
    clear h3 he
    go_enter Try.func14, Try.ntmps14
    go_wp2_with fail
    refine KD.out.mono ?_
    rintro e w1 ⟨rfl, rfl⟩
    go_wp2
    go_ret2
    exact ⟨rfl, rfl⟩
set_option maxHeartbeats 1000000 in
theorem rask_ok (r : Nat) (k : Pr) (w : World) (h : Re w r k) (x c ck : Int) (he : k.askE x ck = 0) (k1 : 0 ≤ ck) (k2 : ck ≤ 18446744073709551615) : Calls Try.prog 14 #[.pointer (some ⟨r, 0, none⟩), .int .i64 x, .int .i64 c, .int .u64 ck] w fun e w' =>
    ∃ g cp, e = .returned (.tuple #[.slice (some ⟨g, 0, none⟩) 48 cp, .int .i64 0]) ∧ w.heap.size ≤ g ∧ Bytes w' (some ⟨g, 0, none⟩) 48 cp (query ck).bytes ∧ Re w' r (k.ask x c ck) ∧ But r w w' := by
  obtain ⟨h1, h2, h3⟩ := askE_ok he
  have hx := hm_t h1
  have KD := Lib.hid (risdue_any r k w h x)
  have KQ := Lib.hid (fun w => rput_any (query ck) w (query_in ck k1 k2) (query_fits ck))
  unfold query at KQ
  simp only at KQ
  rw [h2] at KD
  have HB := Lib.hid h
  have HA := Lib.hid ((query ck).bytes_all (query_in ck k1 k2) (query_fits ck))
  have p6 := h.frozen 6
  have p9 := h.frozen 9
  have p10 := h.frozen 10
  have p11 := h.frozen 11
  obtain ⟨f2, f3, f4, f6, f7, f8, f9, f10, f11⟩ := h.facts
  have g1 : ¬ x < 0 := by omega
  have g2 : ¬ 4611686018427387903 < x := by omega
  clear h h1 h2 he f2 f3 f4 f7 f8 hx
  have t0 : (ck == 0) = false := by simp [h3]
  obtain ⟨l, m, d, n, t, st, due, sent, clk, ck0⟩ := k
  simp only [Pr.ask] at *
  have HW : Hid (Re ((((w.setCell ⟨r, 6, none⟩ (.int .i64 1)).setCell ⟨r, 9, none⟩ (.int .i64 x)).setCell ⟨r, 10, none⟩ (.int .i64 c)).setCell ⟨r, 11, none⟩ (.int .u64 ck)) r ⟨l, m, d, n, t, 1, due, x, c, ck⟩ ∧ But r w ((((w.setCell ⟨r, 6, none⟩ (.int .i64 1)).setCell ⟨r, 9, none⟩ (.int .i64 x)).setCell ⟨r, 10, none⟩ (.int .i64 c)).setCell ⟨r, 11, none⟩ (.int .u64 ck))) := by
    obtain ⟨v, q, s, hb⟩ := HB.out
    have q1 := heap_setCell_same w r 6 (.int .i64 1) _ _ _ hb
    have e1 := heap_setCell_same _ r 9 (.int .i64 x) _ _ _ q1
    have e2 := heap_setCell_same _ r 10 (.int .i64 c) _ _ _ e1
    have e3 := heap_setCell_same _ r 11 (.int .u64 ck) _ _ _ e2
    exact ⟨⟨v, q, s, e3⟩, ((((But.of_below (b := r) (Below.refl w.heap.size w)).setCell 6 (.int .i64 1)).setCell 9 (.int .i64 x)).setCell 10 (.int .i64 c)).setCell 11 (.int .u64 ck)⟩
  go_enter Try.func14, Try.ntmps14
  go_wp2_with fail
  refine KD.out.mono ?_
  rintro e w1 ⟨rfl, rfl⟩
  go_wp2_with fail
  refine (KQ.out _).mono ?_
  rintro e w3 ⟨g, cp, rfl, hg1, hg2, hc1, hc2, hh, hb3⟩
  have H3 := Lib.hid (And.intro (show Bytes w3 (some ⟨g, 0, none⟩) 48 cp (query ck).bytes from ⟨(query ck).bytes_length, hc1, hc2, HA.out, fun _ => ⟨g, 0, rfl, hg2, hh⟩, fun e => by cases e⟩) (And.intro (HW.out.1.below hb3) (HW.out.2.trans (But.of_below hb3))))
  have hg := Nat.le_trans HW.out.2.size hg1
  clear hg1 hg2 hc1 hc2 hh hb3 HW
  go_wp2
  go_ret2
  exact ⟨g, cp, rfl, hg, H3.out⟩
end Go.Proofs.Ytfknefpfekjnnaa
