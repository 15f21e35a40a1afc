/- The calls of package peer that change something, but for Answer. -/
import Derived.Test.YtfknefpfekjnnaaPe
import Derived.Test.YtfknefpfekjnnaaChk2
import Derived.Test.YtfknefpfekjnnaaPut
namespace Go.Proofs.Ytfknefpfekjnnaa
open Go.RowKit

section
variable (p b : Nat) (k : Pr) (w : World) (h : Pe w p b k)
include h
set_option maxHeartbeats 1000000 in
theorem late_any (o : k.Ok) (x : Int) : Calls Try.prog 35 #[.pointer (some ⟨p, 0, none⟩), .int .i64 x] w fun e w' => e = .returned (.bool (k.isLate x)) ∧ Below w.heap.size w w' := by
  have K := Lib.hid (state_any p b k w h)
  have KL := Lib.hid (last_any p b k w h o)
  unfold Pr.isLate
  generalize k.last = L at *
  clear h o
  obtain ⟨l, m, d, n, t, st, due, sent, clk, ck⟩ := k
  simp only at *
  by_cases hs : st = 1
  · subst hs
    go_enter Try.func35, Try.ntmps35
    go_wp2_with fail
    refine K.out.mono ?_
    rintro e w1 ⟨rfl, rfl⟩
    go_wp2_with fail
    refine KL.out.mono ?_
    rintro e w1 ⟨rfl, hb⟩
    go_wp2
    go_ret
    exact ⟨by simp, hb⟩
  · have h1 : (st == 1) = false := by simp [hs]
    go_enter Try.func35, Try.ntmps35
    go_wp2_with fail
    refine K.out.mono ?_
    rintro e w1 ⟨rfl, rfl⟩
    go_wp2
    go_ret
    exact ⟨by simp [hs], Below.refl _ _⟩
set_option maxHeartbeats 1000000 in
theorem pnext_any (o : k.Ok) : Calls Try.prog 24 #[.pointer (some ⟨p, 0, none⟩)] w fun e w' => e = .returned (.int .i64 k.next) ∧ Below w.heap.size w w' := by
  have KL := Lib.hid (last_any p b k w h o)
  obtain ⟨l1, l2⟩ := o.last
  obtain ⟨f0, f1, f2, f3, f4, f5, f6⟩ := h.facts
  have u1 := o.u1
  have u2 := o.u2
  have st3 := o.st3
  unfold Pr.next
  generalize k.last = L at *
  clear h o f0 f1 f4 f5 f6
  obtain ⟨l, m, d, n, t, st, due, sent, clk, ck⟩ := k
  simp only at *
  have hw : IntKind.i64.wrap (L + 1) = L + 1 := IntWalk.i64_in _ (by omega)
  obtain ⟨y, hy⟩ : ∃ y, y = min due 4611686018427387903 := ⟨_, rfl⟩
  obtain ⟨z, hz⟩ : ∃ z, z = min (L + 1) 4611686018427387903 := ⟨_, rfl⟩
  rw [← hy, ← hz]
  by_cases hs : st = 0
  · subst hs
    clear KL hw
    go_enter Try.func24, Try.ntmps24
    go_wp2
    all_goals
      go_ret
      refine ⟨ret_int ?_, Below.refl _ _⟩
      first | omega | (rw [if_pos rfl]; omega)
  by_cases h1 : st = 1
  · subst h1
    go_enter Try.func24, Try.ntmps24
    go_wp2_with fail
    refine KL.out.mono ?_
    rintro e w1 ⟨rfl, hb⟩
    go_wp2
    all_goals
      go_ret
      refine ⟨ret_int ?_, hb⟩
      omega
  · obtain rfl : st = 2 := by omega
    clear KL hw
    go_enter Try.func24, Try.ntmps24
    go_wp2
    go_ret
    exact ⟨rfl, Below.refl _ _⟩
set_option maxHeartbeats 1000000 in
theorem rest_any (s : Int) (o1 : 0 ≤ k.sent) (o2 : k.sent ≤ 4611686018427387903) (s1 : 0 ≤ s) (s2 : s ≤ 1024) : Calls Try.prog 36 #[.pointer (some ⟨p, 0, none⟩), .int .i64 s] w fun e w' => e = .returned (.tuple #[]) ∧ Pe w' p b (k.rest s) ∧ But p w w' := by
  obtain ⟨f0, f1, f2, f3, f4, f5, f6⟩ := h.facts
  have HB := Lib.hid h
  have p2 : w.frozen? ⟨p, 2, none⟩ = false := frozen_row h.blk 2
  have p3 : w.frozen? ⟨p, 3, none⟩ = false := frozen_row h.blk 3
  clear h f0 f1 f5 f6
  have hw1 : IntKind.i64.wrap (s * 1000000000) = s * 1000000000 := IntWalk.i64_in _ (by omega)
  have hw2 : IntKind.i64.wrap (k.sent + s * 1000000000) = k.sent + s * 1000000000 := IntWalk.i64_in _ (by omega)
  obtain ⟨l, m, d, n, t, st, due, sent, clk, ck⟩ := k
  simp only [Pr.rest] at *
  go_enter Try.func36, Try.ntmps36
  go_wp2
  go_end0
  refine ⟨rfl, ⟨?_, ?_⟩, ?_⟩
  · have q1 := heap_setCell_same w p 2 (.int .i64 0) _ _ _ HB.out.blk
    have q2 := heap_setCell_same _ p 3 (.int .i64 (sent + s * 1000000000)) _ _ _ q1
    exact q2
  · exact (((But.of_below (Below.refl _ _)).setCell 2 _).setCell 3 _ : But p w _).bk HB.out.bk (fun e => HB.out.ne e.symm)
  · exact ((But.of_below (Below.refl _ _)).setCell 2 _).setCell 3 _
end
theorem Pe.fail {w w1 : World} {p b : Nat} {k : Pr} (h : Pe w p b k) (hb : Bk w1 b k.bk.fail) (hc : But b w w1) : Pe w1 p b { k with n := nx k.n k.m, t := k.t + 1 } := ⟨(hc.block p h.lt h.ne).trans h.blk, hb⟩
theorem Pe.good {w w1 : World} {p b : Nat} {k : Pr} (h : Pe w p b k) (hb : Bk w1 b k.bk.good) (hc : But b w w1) : Pe w1 p b { k with n := k.l, t := 0 } := ⟨(hc.block p h.lt h.ne).trans h.blk, hb⟩
set_option maxHeartbeats 1000000 in
theorem plate_no (p b : Nat) (k : Pr) (w : World) (h : Pe w p b k) (o : k.Ok) (x : Int) (hx : k.isLate x = false) : Calls Try.prog 15 #[.pointer (some ⟨p, 0, none⟩), .int .i64 x] w fun e w' => e = .returned (.bool false) ∧ Below w.heap.size w w' := by
  have K := Lib.hid (late_any p b k w h o x)
  rw [hx] at K
  clear h o hx
  go_enter Try.func15, Try.ntmps15
  go_wp2_with fail
  refine K.out.mono ?_
  rintro e w1 ⟨rfl, hb⟩
  go_wp2
  go_ret
  exact ⟨rfl, hb⟩
set_option maxHeartbeats 1000000 in
theorem plate_yes (p b : Nat) (k : Pr) (w : World) (h : Pe w p b k) (o : k.Ok) (ht : k.t ≤ 1000000000000) (x : Int) (hx : k.isLate x = true) : Calls Try.prog 15 #[.pointer (some ⟨p, 0, none⟩), .int .i64 x] w fun e w' => e = .returned (.bool true) ∧ Pe w' p b k.fail ∧ Two p b w w' := by
  have K := Lib.hid (late_any p b k w h o x)
  rw [hx] at K
  have KF := Lib.hid (fun w1 (hb : Below w.heap.size w w1) => bkfail_any b k.bk w1 (h.bk.below hb) (o.bk ht))
  have KR := Lib.hid (fun w2 (h2 : Pe w2 p b { k with n := nx k.n k.m, t := k.t + 1 }) => rest_any p b _ w2 h2 (nx k.n k.m) o.s1 o.s2 (by have := (o.bk ht).nx; have := o.l1; have := o.n1; simp only [Pr.bk] at *; omega) (by have := (o.bk ht).nx; have := o.m1; simp only [Pr.bk] at *; omega))
  have HH := Lib.hid h
  clear h o hx ht
  simp only [Pr.bk] at KF
  obtain ⟨u, hu⟩ : ∃ u, u = nx k.n k.m := ⟨_, rfl⟩
  have HU := Lib.hid hu
  rw [← hu] at KF KR
  clear hu
  go_enter Try.func15, Try.ntmps15
  go_wp2_with fail
  refine K.out.mono ?_
  rintro e w1 ⟨rfl, hb⟩
  have H1 := Lib.hid (HH.out.below hb)
  have HB1 := Lib.hid hb
  have KF1 := Lib.hid (KF.out w1 hb)
  obtain ⟨f0, f1, f2, f3, f4, f5, f6⟩ := H1.out.facts
  clear hb KF f1 f2 f3 f4 f5 f6
  go_wp2_with fail
  refine KF1.out.mono ?_
  rintro e w2 ⟨rfl, hb2, hc2⟩
  have H2 := Lib.hid (H1.out.fail hb2 hc2)
  rw [← HU.out] at H2
  have KR2 := Lib.hid (KR.out w2 H2.out)
  have HC2 := Lib.hid hc2
  clear hb2 hc2 f0 KR KF1
  go_wp2_with fail
  refine KR2.out.mono ?_
  rintro e w3 ⟨rfl, h3, hc3⟩
  have H3 := Lib.hid (And.intro h3 hc3)
  clear h3 hc3
  go_wp2
  go_ret
  refine ⟨rfl, ?_, ((Two.of_below HB1.out).trans (Two.of_but HC2.out)).trans (Two.of_but' H3.out.2)⟩
  have := H3.out.1
  rw [HU.out] at this
  exact this
end Go.Proofs.Ytfknefpfekjnnaa
