/- ConfChecks' walk. -/
import Derived.Test.YtlbabhddjdhalaaDoorRprint
import Derived.Test.YtlbabhddjdhalaaDoorRsame
import Derived.Test.YtlbabhddjdhalaaDoorRchk
namespace Go.Proofs.YtlbabhddjdhalaaDoor
open Go.RowKit Go.Proofs.Lx

theorem textZ_none {c : Cfg} (h : checkOf c ≠ 0) : textZ c = ⟨#[]⟩ := by unfold textZ textC; rw [if_neg h]
theorem textZ_some {c : Cfg} (h : checkOf c = 0) : textZ c = ⟨(printOf c).toArray⟩ := by unfold textZ; rw [textC_ok h]
set_option maxRecDepth 100000 in
set_option maxHeartbeats 4000000 in
theorem walk_confChecks (v0 v1 : Value) (w : World) (w0 : CfgIn w v0) (w1 : CfgIn w v1) (hm : Mx w) (ht : Pow w) :
    Calls Tryd.prog 3 #[v0, v1] w fun e w' => e = .returned (.bool true) ∧ Below w.heap.size w w' := by
  obtain ⟨u0, a, rfl, I0, s0, q0, l0, m0, d0, z0, n0⟩ := w0
  obtain ⟨u1, b, rfl, I1, s1, q1, l1, m1, d1, z1, n1⟩ := w1
  have R0 : CfgR a := ⟨s0, q0, l0, m0, d0, z0⟩
  obtain ⟨A, ca, rfl, hca⟩ := I0.len
  obtain ⟨B, cb, rfl, hcb⟩ := I1.len
  clear s0 q0 l0 m0 d0 z0 s1 q1 l1 m1 d1 z1
  obtain ⟨W, hW⟩ : ∃ W, W = (w.alloc (.cells #[.slice A a.S.length ca, .int .i64 a.q, .int .i64 a.l, .int .i64 a.m, .int .i64 a.d, .int .i64 a.s] 24)).alloc (.cells #[.slice B b.S.length cb, .int .i64 b.q, .int .i64 b.l, .int .i64 b.m, .int .i64 b.d, .int .i64 b.s] 24) := ⟨_, rfl⟩
  have hbW : Below w.heap.size w W := by rw [hW]; exact ((Below.refl _ _).alloc (Nat.le_refl _) _).alloc (by simp) _
  have B0 : Box W w.heap.size (.slice A a.S.length ca) a := by rw [hW]; exact heap_alloc2_old _ _ _
  have B1 : Box W (w.heap.size + 1) (.slice B b.S.length cb) b := by rw [hW]; exact heap_alloc2_new _ _ _
  have GO : ∀ u, Below W.heap.size W u → Below w.heap.size w u := fun u hu => hbW.trans (hu.mono hbW.size)
  have HGO := Lib.hid GO
  have HA : Hid (∀ u, Below W.heap.size W u → Box u w.heap.size (.slice A a.S.length ca) a) := fun u hu => B0.below hu B0.lt
  have HB : Hid (∀ u, Below W.heap.size W u → Box u (w.heap.size + 1) (.slice B b.S.length cb) b) := fun u hu => B1.below hu B1.lt
  have HWW : Hid (Below W.heap.size W W) := Below.refl _ _
  have KL : Hid (∀ u, Below W.heap.size W u → Calls Tryd.prog 10 #[] u fun e w' => e = .returned (.bool true) ∧ Below W.heap.size W w') := fun u hu =>
    (alive_any u (hm.below (GO u hu) (Nat.le_refl _))).mono fun e w' h => ⟨h.1, hu.trans (h.2.mono hu.size)⟩
  by_cases c1 : (100 : Int) < (a.S.length : Int)
  · obtain ⟨N, hN⟩ : ∃ N, N = a.S.length := ⟨_, rfl⟩
    obtain ⟨M, hM⟩ : ∃ M, M = b.S.length := ⟨_, rfl⟩
    unfold cval
    rw [← hN] at c1 n0
    rw [← hM] at n1
    rw [← hN, ← hM] at hW ⊢
    clear GO hbW B0 B1 I0 I1 R0 hm ht hN hM HA HB hca hcb
    unfold maxLen at n0 n1
    go_enter Tryd.func3, Tryd.ntmps3
    go_wp2_with (rw [← hW]; go_at_call 10; refine (KL.out W HWW.out).mono ?_; rintro e w1 ⟨rfl, hb1⟩)
    go_ret
    exact ⟨rfl, HGO.out _ hb1⟩
  by_cases c2 : (100 : Int) < (b.S.length : Int)
  · obtain ⟨N, hN⟩ : ∃ N, N = a.S.length := ⟨_, rfl⟩
    obtain ⟨M, hM⟩ : ∃ M, M = b.S.length := ⟨_, rfl⟩
    unfold cval
    rw [← hN] at c1 n0
    rw [← hM] at n1 c2
    rw [← hN, ← hM] at hW ⊢
    clear GO hbW B0 B1 I0 I1 R0 hm ht hN hM HA HB hca hcb
    unfold maxLen at n0 n1
    go_enter Tryd.func3, Tryd.ntmps3
    go_wp2_with (rw [← hW]; go_at_call 10; refine (KL.out W HWW.out).mono ?_; rintro e w1 ⟨rfl, hb1⟩)
    go_ret
    exact ⟨rfl, HGO.out _ hb1⟩
  have hla : a.S.length ≤ 1000000 := by omega
  have hlb : b.S.length ≤ 1000000 := by omega
  have KA : Hid (∀ u, Below W.heap.size W u → Calls Tryd.prog 11 #[cval (.slice A a.S.length ca) a] u fun e w' => e = .returned (.tuple #[.string (textZ a), .int .i64 (checkOf a : Nat)]) ∧ Below W.heap.size W w') := fun u hu =>
    (print_any _ a u (I0.below (GO u hu) (Nat.le_refl _)) R0 (ht.below (GO u hu) (Nat.le_refl _))).mono fun e w' h => ⟨h.1, hu.trans (h.2.mono hu.size)⟩
  have KR : Hid (∀ u, Below W.heap.size W u → Calls Tryd.prog 12 #[cval (.slice A a.S.length ca) a] u fun e w' => e = .returned (.int .i64 (checkOf a : Nat)) ∧ Below W.heap.size W w') := fun u hu =>
    (rcheck_any _ a u (I0.below (GO u hu) (Nat.le_refl _)) hla).mono fun e w' h => ⟨h.1, hu.trans (h.2.mono hu.size)⟩
  have KP : Hid (∀ u, Below W.heap.size W u → checkOf a = 0 → Calls Tryd.prog 16 #[cval (.slice A a.S.length ca) a] u fun e w' => e = .returned (.string (textZ a)) ∧ Below W.heap.size W w') := fun u hu h0 => by
    rw [textZ_some h0]
    exact (rprint_any _ a u (I0.below (GO u hu) (Nat.le_refl _)) (check_small h0).1).mono fun e w' h => ⟨h.1, hu.trans (h.2.mono hu.size)⟩
  have KC : Hid (∀ u, Below W.heap.size W u → Calls Tryd.prog 13 #[cval (.slice A a.S.length ca) a] u fun e w' => e = .returned (.int .i64 (checkOf a : Nat)) ∧ Below u.heap.size u w') := fun u hu =>
    check_all _ a u (I0.below (GO u hu) (Nat.le_refl _))
  have KS : Hid (∀ u, Below W.heap.size W u → Calls Tryd.prog 14 #[cval (.slice A a.S.length ca) a, cval (.slice B b.S.length cb) b] u fun e w' => e = .returned (.bool (decide (a = b))) ∧ Below u.heap.size u w') := fun u hu =>
    same_any _ _ a b u (I0.below (GO u hu) (Nat.le_refl _)) (I1.below (GO u hu) (Nat.le_refl _)) hla hlb
  have KT : Hid (∀ u, Below W.heap.size W u → Calls Tryd.prog 15 #[cval (.slice A a.S.length ca) a, cval (.slice B b.S.length cb) b] u fun e w' => e = .returned (.bool (decide (a = b))) ∧ Below u.heap.size u w') := fun u hu =>
    rsame_any _ _ a b u (I0.below (GO u hu) (Nat.le_refl _)) (I1.below (GO u hu) (Nat.le_refl _)) hla hlb
  have KU : Hid (∀ u, Below W.heap.size W u → Calls Tryd.prog 14 #[cval (.slice A a.S.length ca) a, cval (.slice A a.S.length ca) a] u fun e w' => e = .returned (.bool (decide (a = a))) ∧ Below u.heap.size u w') := fun u hu =>
    same_any _ _ a a u (I0.below (GO u hu) (Nat.le_refl _)) (I0.below (GO u hu) (Nat.le_refl _)) hla hla
  have HZN := Lib.hid (textZ_none (c := a))
  rw [decide_eq_true rfl] at KU
  unfold cval at KA KR KP KC KS KT KU ⊢
  obtain ⟨N, hN⟩ : ∃ N, N = a.S.length := ⟨_, rfl⟩
  obtain ⟨M, hM⟩ : ∃ M, M = b.S.length := ⟨_, rfl⟩
  obtain ⟨x, hx⟩ : ∃ x, x = checkOf a := ⟨_, rfl⟩
  obtain ⟨ta, hta⟩ : ∃ t, t = textZ a := ⟨_, rfl⟩
  obtain ⟨r, hr⟩ : ∃ r, r = decide (a = b) := ⟨_, rfl⟩
  rw [← hN] at HA KA KR KP KC KS KT KU n0 c1
  rw [← hM] at HB KS KT n1 c2
  rw [← hN, ← hM] at hW ⊢
  rw [← hx] at KA KR KP KC HZN
  rw [← hta] at KA KP HZN
  rw [← hr] at KS KT
  clear hN hM hx hta hr GO hbW B0 B1 I0 I1 R0 hm ht hla hlb hca hcb
  unfold maxLen at n0 n1
  have tr : (r != r) = false := by simp
  by_cases hx0 : x = 0
  · subst hx0
    have KQ := Lib.hid (fun u hu => KP.out u hu rfl)
    clear KP
    go_enter Tryd.func3, Tryd.ntmps3
    go_wp2_with fail
    rw [← hW]
    refine (KA.out W HWW.out).mono ?_
    rintro e w1 ⟨rfl, hb1⟩
    obtain ⟨r0, r1, r2, r3, r4, r5⟩ := (HA.out w1 hb1).cells
    go_wp2_with fail
    refine (KR.out w1 hb1).mono ?_
    rintro e w2 ⟨rfl, hb2⟩
    obtain ⟨a0, a1, a2, a3, a4, a5⟩ := (HA.out w2 hb2).cells
    obtain ⟨b0, b1, b2, b3, b4, b5⟩ := (HB.out w2 hb2).cells
    have ma0 := fun d os => cell_regrown a0 d os
    have ma1 := fun d os => cell_regrown a1 d os
    have ma2 := fun d os => cell_regrown a2 d os
    have ma3 := fun d os => cell_regrown a3 d os
    have ma4 := fun d os => cell_regrown a4 d os
    have ma5 := fun d os => cell_regrown a5 d os
    have mb0 := fun d os => cell_regrown b0 d os
    have mb1 := fun d os => cell_regrown b1 d os
    have mb2 := fun d os => cell_regrown b2 d os
    have mb3 := fun d os => cell_regrown b3 d os
    have mb4 := fun d os => cell_regrown b4 d os
    have mb5 := fun d os => cell_regrown b5 d os
    have c1 : ∀ d os, Calls Tryd.prog 13 #[.agg #[.slice A N ca, .int .i64 a.q, .int .i64 a.l, .int .i64 a.m, .int .i64 a.d, .int .i64 a.s]] (Sort.grow (redrawn w2 d) os) fun e w'' => e = .returned (.int .i64 ((0 : Nat) : Int)) ∧ ∃ p : Regrown, w'' = Sort.grow (redrawn w2 p.d) p.os := fun d os => Calls.regrown_of (KC.out _ (hb2.trans ((below_regrown w2 d os).mono hb2.size)))
    have c2 : ∀ d os, Calls Tryd.prog 14 #[.agg #[.slice A N ca, .int .i64 a.q, .int .i64 a.l, .int .i64 a.m, .int .i64 a.d, .int .i64 a.s], .agg #[.slice B M cb, .int .i64 b.q, .int .i64 b.l, .int .i64 b.m, .int .i64 b.d, .int .i64 b.s]] (Sort.grow (redrawn w2 d) os) fun e w'' => e = .returned (.bool r) ∧ ∃ p : Regrown, w'' = Sort.grow (redrawn w2 p.d) p.os := fun d os => Calls.regrown_of (KS.out _ (hb2.trans ((below_regrown w2 d os).mono hb2.size)))
    have c3 : ∀ d os, Calls Tryd.prog 15 #[.agg #[.slice A N ca, .int .i64 a.q, .int .i64 a.l, .int .i64 a.m, .int .i64 a.d, .int .i64 a.s], .agg #[.slice B M cb, .int .i64 b.q, .int .i64 b.l, .int .i64 b.m, .int .i64 b.d, .int .i64 b.s]] (Sort.grow (redrawn w2 d) os) fun e w'' => e = .returned (.bool r) ∧ ∃ p : Regrown, w'' = Sort.grow (redrawn w2 p.d) p.os := fun d os => Calls.regrown_of (KT.out _ (hb2.trans ((below_regrown w2 d os).mono hb2.size)))
    have c4 : ∀ d os, Calls Tryd.prog 14 #[.agg #[.slice A N ca, .int .i64 a.q, .int .i64 a.l, .int .i64 a.m, .int .i64 a.d, .int .i64 a.s], .agg #[.slice A N ca, .int .i64 a.q, .int .i64 a.l, .int .i64 a.m, .int .i64 a.d, .int .i64 a.s]] (Sort.grow (redrawn w2 d) os) fun e w'' => e = .returned (.bool true) ∧ ∃ p : Regrown, w'' = Sort.grow (redrawn w2 p.d) p.os := fun d os => Calls.regrown_of (KU.out _ (hb2.trans ((below_regrown w2 d os).mono hb2.size)))
    clear a0 a1 a2 a3 a4 a5 b0 b1 b2 b3 b4 b5 r0 r1 r2 r3 r4 r5
    have HB2 := Lib.hid hb2
    clear hb1 hb2
    go_wp2_with fail
    refine wp_region_quiet_below (by kernel_rfl) (by kernel_rfl) ?_
    repeat (go_big_quiet_step (first | with_reducible exact c1 _ _ | with_reducible exact c2 _ _ | with_reducible exact c3 _ _ | with_reducible exact c4 _ _))
    refine wpQuiet_nil ?_
    intro _ hw'
    obtain ⟨⟨dq, osq⟩, hw''⟩ := hw'
    obtain ⟨w3, hw3⟩ : ∃ w3, w3 = Sort.grow (redrawn w2 dq) osq := ⟨_, rfl⟩
    have hb3 : Below W.heap.size W w3 := by
      rw [hw3]; exact HB2.out.trans ((below_regrown w2 dq osq).mono HB2.out.size)
    rw [← hw3] at hw''
    subst hw''
    clear hw3 c1 c2 c3 c4 ma0 ma1 ma2 ma3 ma4 ma5 mb0 mb1 mb2 mb3 mb4 mb5

    go_wp2_with fail
    refine (KL.out _ hb3).mono ?_
    rintro e w4 ⟨rfl, hb4⟩
    obtain ⟨r0, r1, r2, r3, r4, r5⟩ := (HA.out w4 hb4).cells
    go_wp2_with fail
    refine (KQ.out w4 hb4).mono ?_
    rintro e w5 ⟨rfl, hb5⟩
    go_wp2
    go_ret
    exact ⟨rfl, HGO.out _ hb5⟩
  · have tx : ((x : Int) != 0) = true := by simp; omega
    have ty : ((x : Int) != (x : Int)) = false := by simp
    obtain rfl := HZN.out hx0
    clear HZN KP
    go_enter Tryd.func3, Tryd.ntmps3
    go_wp2_with fail
    rw [← hW]
    refine (KA.out W HWW.out).mono ?_
    rintro e w1 ⟨rfl, hb1⟩
    obtain ⟨r0, r1, r2, r3, r4, r5⟩ := (HA.out w1 hb1).cells
    go_wp2_with fail
    refine (KR.out w1 hb1).mono ?_
    rintro e w2 ⟨rfl, hb2⟩
    obtain ⟨a0, a1, a2, a3, a4, a5⟩ := (HA.out w2 hb2).cells
    obtain ⟨b0, b1, b2, b3, b4, b5⟩ := (HB.out w2 hb2).cells
    have ma0 := fun d os => cell_regrown a0 d os
    have ma1 := fun d os => cell_regrown a1 d os
    have ma2 := fun d os => cell_regrown a2 d os
    have ma3 := fun d os => cell_regrown a3 d os
    have ma4 := fun d os => cell_regrown a4 d os
    have ma5 := fun d os => cell_regrown a5 d os
    have mb0 := fun d os => cell_regrown b0 d os
    have mb1 := fun d os => cell_regrown b1 d os
    have mb2 := fun d os => cell_regrown b2 d os
    have mb3 := fun d os => cell_regrown b3 d os
    have mb4 := fun d os => cell_regrown b4 d os
    have mb5 := fun d os => cell_regrown b5 d os
    have c1 : ∀ d os, Calls Tryd.prog 13 #[.agg #[.slice A N ca, .int .i64 a.q, .int .i64 a.l, .int .i64 a.m, .int .i64 a.d, .int .i64 a.s]] (Sort.grow (redrawn w2 d) os) fun e w'' => e = .returned (.int .i64 (x : Int)) ∧ ∃ p : Regrown, w'' = Sort.grow (redrawn w2 p.d) p.os := fun d os => Calls.regrown_of (KC.out _ (hb2.trans ((below_regrown w2 d os).mono hb2.size)))
    have c2 : ∀ d os, Calls Tryd.prog 14 #[.agg #[.slice A N ca, .int .i64 a.q, .int .i64 a.l, .int .i64 a.m, .int .i64 a.d, .int .i64 a.s], .agg #[.slice B M cb, .int .i64 b.q, .int .i64 b.l, .int .i64 b.m, .int .i64 b.d, .int .i64 b.s]] (Sort.grow (redrawn w2 d) os) fun e w'' => e = .returned (.bool r) ∧ ∃ p : Regrown, w'' = Sort.grow (redrawn w2 p.d) p.os := fun d os => Calls.regrown_of (KS.out _ (hb2.trans ((below_regrown w2 d os).mono hb2.size)))
    have c3 : ∀ d os, Calls Tryd.prog 15 #[.agg #[.slice A N ca, .int .i64 a.q, .int .i64 a.l, .int .i64 a.m, .int .i64 a.d, .int .i64 a.s], .agg #[.slice B M cb, .int .i64 b.q, .int .i64 b.l, .int .i64 b.m, .int .i64 b.d, .int .i64 b.s]] (Sort.grow (redrawn w2 d) os) fun e w'' => e = .returned (.bool r) ∧ ∃ p : Regrown, w'' = Sort.grow (redrawn w2 p.d) p.os := fun d os => Calls.regrown_of (KT.out _ (hb2.trans ((below_regrown w2 d os).mono hb2.size)))
    have c4 : ∀ d os, Calls Tryd.prog 14 #[.agg #[.slice A N ca, .int .i64 a.q, .int .i64 a.l, .int .i64 a.m, .int .i64 a.d, .int .i64 a.s], .agg #[.slice A N ca, .int .i64 a.q, .int .i64 a.l, .int .i64 a.m, .int .i64 a.d, .int .i64 a.s]] (Sort.grow (redrawn w2 d) os) fun e w'' => e = .returned (.bool true) ∧ ∃ p : Regrown, w'' = Sort.grow (redrawn w2 p.d) p.os := fun d os => Calls.regrown_of (KU.out _ (hb2.trans ((below_regrown w2 d os).mono hb2.size)))
    clear a0 a1 a2 a3 a4 a5 b0 b1 b2 b3 b4 b5 r0 r1 r2 r3 r4 r5
    have HB2 := Lib.hid hb2
    clear hb1 hb2
    go_wp2_with fail
    refine wp_region_quiet_below (by kernel_rfl) (by kernel_rfl) ?_
    repeat (go_big_quiet_step (first | with_reducible exact c1 _ _ | with_reducible exact c2 _ _ | with_reducible exact c3 _ _ | with_reducible exact c4 _ _))
    refine wpQuiet_nil ?_
    intro _ hw'
    obtain ⟨⟨dq, osq⟩, hw''⟩ := hw'
    obtain ⟨w3, hw3⟩ : ∃ w3, w3 = Sort.grow (redrawn w2 dq) osq := ⟨_, rfl⟩
    have hb3 : Below W.heap.size W w3 := by
      rw [hw3]; exact HB2.out.trans ((below_regrown w2 dq osq).mono HB2.out.size)
    rw [← hw3] at hw''
    subst hw''
    clear hw3 c1 c2 c3 c4 ma0 ma1 ma2 ma3 ma4 ma5 mb0 mb1 mb2 mb3 mb4 mb5

    go_wp2_with fail
    refine (KL.out _ hb3).mono ?_
    rintro e w4 ⟨rfl, hb4⟩
    go_wp2
    go_ret
    exact ⟨rfl, HGO.out _ hb4⟩
end Go.Proofs.YtlbabhddjdhalaaDoor
