/- ConfSame's walk. -/
import Derived.Test.YtlbabhddjdhalaaDoorLaws0
namespace Go.Proofs.YtlbabhddjdhalaaDoor
open Go.RowKit Go.Proofs.Lx

set_option maxRecDepth 100000 in
set_option maxHeartbeats 4000000 in
theorem walk_confSame (v0 v1 : Value) (w : World) (w0 : CfgIn w v0) (w1 : CfgIn w v1) (hm : Mx w) (ht : Pow w) :
    Calls Tryd.prog 8 #[v0, v1] w fun e w' => e = .returned (.bool true) ∧ Below w.heap.size w w' := by
  obtain ⟨u0, a, rfl, I0, s0, q0, l0, m0, d0, z0, n0⟩ := w0
  obtain ⟨u1, b, rfl, I1, s1, q1, l1, m1, d1, z1, n1⟩ := w1
  have R0 : CfgR a := ⟨s0, q0, l0, m0, d0, z0⟩
  have R1 : CfgR b := ⟨s1, q1, l1, m1, d1, z1⟩
  obtain ⟨A, ca, rfl, hca⟩ := I0.len
  obtain ⟨B, cb, rfl, hcb⟩ := I1.len
  clear s0 q0 l0 m0 d0 z0 s1 q1 l1 m1 d1 z1
  obtain ⟨W, hW⟩ : ∃ W, W = (w.alloc (.cells #[.slice A a.S.length ca, .int .i64 a.q, .int .i64 a.l, .int .i64 a.m, .int .i64 a.d, .int .i64 a.s] 24)).alloc (.cells #[.slice B b.S.length cb, .int .i64 b.q, .int .i64 b.l, .int .i64 b.m, .int .i64 b.d, .int .i64 b.s] 24) := ⟨_, rfl⟩
  have hbW : Below w.heap.size w W := by rw [hW]; exact ((Below.refl _ _).alloc (Nat.le_refl _) _).alloc (by simp) _
  have hs : W.heap.size = w.heap.size + 2 := by rw [hW]; simp
  have B0 : Box W w.heap.size (.slice A a.S.length ca) a := by rw [hW]; exact heap_alloc2_old _ _ _
  have B1 : Box W (w.heap.size + 1) (.slice B b.S.length cb) b := by rw [hW]; exact heap_alloc2_new _ _ _
  have GO : ∀ u, Below W.heap.size W u → Below w.heap.size w u := fun u hu => hbW.trans (hu.mono hbW.size)
  have HGO := Lib.hid GO
  have HA : Hid (∀ u, Below W.heap.size W u → Box u w.heap.size (.slice A a.S.length ca) a) := fun u hu => B0.below hu B0.lt
  have HB : Hid (∀ u, Below W.heap.size W u → Box u (w.heap.size + 1) (.slice B b.S.length cb) b) := fun u hu => B1.below hu B1.lt
  have KL : Hid (∀ u, Below W.heap.size W u → Calls Tryd.prog 10 #[] u fun e w' => e = .returned (.bool true) ∧ Below W.heap.size W w' ∧ Below u.heap.size u w') := fun u hu =>
    (alive_any u (hm.below (GO u hu) (Nat.le_refl _))).mono fun e w' h => ⟨h.1, hu.trans (h.2.mono hu.size), h.2⟩
  have KA : Hid (∀ u, Below W.heap.size W u → Calls Tryd.prog 11 #[cval (.slice A a.S.length ca) a] u fun e w' => e = .returned (.tuple #[.string (textZ a), .int .i64 (checkOf a : Nat)]) ∧ Below W.heap.size W w') := fun u hu =>
    (print_any _ a u (I0.below (GO u hu) (Nat.le_refl _)) R0 (ht.below (GO u hu) (Nat.le_refl _))).mono fun e w' h => ⟨h.1, hu.trans (h.2.mono hu.size)⟩
  have KB : Hid (∀ u, Below W.heap.size W u → Calls Tryd.prog 11 #[cval (.slice B b.S.length cb) b] u fun e w' => e = .returned (.tuple #[.string (textZ b), .int .i64 (checkOf b : Nat)]) ∧ Below W.heap.size W w') := fun u hu =>
    (print_any _ b u (I1.below (GO u hu) (Nat.le_refl _)) R1 (ht.below (GO u hu) (Nat.le_refl _))).mono fun e w' h => ⟨h.1, hu.trans (h.2.mono hu.size)⟩
  have KS : Hid (∀ u, Below W.heap.size W u → a.S.length ≤ 50 → b.S.length ≤ 50 → Calls Tryd.prog 14 #[cval (.slice A a.S.length ca) a, cval (.slice B b.S.length cb) b] u fun e w' => e = .returned (.bool (decide (a = b))) ∧ Below W.heap.size W w' ∧ Below u.heap.size u w') := fun u hu h1 h2 =>
    (same_any _ _ a b u (I0.below (GO u hu) (Nat.le_refl _)) (I1.below (GO u hu) (Nat.le_refl _)) (by omega) (by omega)).mono fun e w' h => ⟨h.1, hu.trans (h.2.mono hu.size), h.2⟩
  have KX : Hid (∀ u (K : Nat), Below W.heap.size W u → a.S.length = K + 1 → a.S.length ≤ 50 → Calls Tryd.prog 14 #[cval (.slice A a.S.length ca) a, cval (.slice A K ca) a] u fun e w' => e = .returned (.bool false) ∧ Below W.heap.size W w') := fun u K hu hK h1 => by
    have hI := I0.below (GO u hu) (Nat.le_refl _)
    have ht := hI.take K (by omega)
    have := same_any (.slice A a.S.length ca) (.slice A K ca) a { a with S := a.S.take K } u hI ht (by omega) (by show (a.S.take K).length ≤ 1000000; simp; omega)
    rw [decide_eq_false (fun e => by
      have e2 : a.S = a.S.take K := congrArg Cfg.S e
      have e3 := congrArg List.length e2
      simp at e3; omega)] at this
    exact this.mono fun e w' h => ⟨h.1, hu.trans (h.2.mono hu.size)⟩
  have HT := Lib.hid (fun (ha : checkOf a = 0) (hb : checkOf b = 0) => textZ_eq ha hb)
  have HE := Lib.hid (fun (ha : checkOf a = 0) => List.length_pos_iff.2 (check_zero ha).1)
  unfold cval at KA KB KS KX ⊢
  obtain ⟨N, hN⟩ : ∃ N, N = a.S.length := ⟨_, rfl⟩
  obtain ⟨M, hM⟩ : ∃ M, M = b.S.length := ⟨_, rfl⟩
  obtain ⟨x, hx⟩ : ∃ x, x = checkOf a := ⟨_, rfl⟩
  obtain ⟨y, hy⟩ : ∃ y, y = checkOf b := ⟨_, rfl⟩
  obtain ⟨ta, hta⟩ : ∃ t, t = textZ a := ⟨_, rfl⟩
  obtain ⟨tb, htb⟩ : ∃ t, t = textZ b := ⟨_, rfl⟩
  rw [← hN] at HA KA KS KX HE n0 hca
  rw [← hM] at HB KB KS n1 hcb
  rw [← hN, ← hM] at hW ⊢
  rw [← hx, ← hta] at KA
  rw [← hy, ← htb] at KB
  rw [← hx] at HE HT
  rw [← hy, ← hta, ← htb] at HT
  obtain ⟨r, hr⟩ : ∃ r, r = decide (a = b) := ⟨_, rfl⟩
  rw [← hr] at KS HT
  have HWW : Hid (Below W.heap.size W W) := Below.refl _ _
  clear hN hM hx hy hta htb hr hs GO B0 B1 hbW I0 I1 R0 R1 hm ht
  unfold maxLen at n0 n1
  by_cases c1 : (50 : Int) < (N : Int)
  · go_enter Tryd.func8, Tryd.ntmps8
    go_wp2_with (rw [← hW]; go_at_call 10; refine (KL.out W HWW.out).mono ?_; rintro e w1 ⟨rfl, hb1, _⟩)
    go_ret
    exact ⟨rfl, HGO.out _ hb1⟩
  by_cases c2 : (50 : Int) < (M : Int)
  · go_enter Tryd.func8, Tryd.ntmps8
    go_wp2_with (rw [← hW]; go_at_call 10; refine (KL.out W HWW.out).mono ?_; rintro e w1 ⟨rfl, hb1, _⟩)
    go_ret
    exact ⟨rfl, HGO.out _ hb1⟩
  by_cases hx0 : x = 0
  · subst hx0
    have hpos := HE.out rfl
    by_cases hy0 : y = 0
    · subst hy0
      have tE := HT.out rfl rfl
      obtain ⟨K, rfl⟩ : ∃ K, N = K + 1 := ⟨N - 1, by omega⟩
      have KS' := Lib.hid (fun u hu => KS.out u hu (by omega) (by omega))
      have KX' := Lib.hid (fun u hu => KX.out u K hu rfl (by omega))
      clear KS KX HT HE
      go_enter Tryd.func8, Tryd.ntmps8
      go_wp2_with fail
      rw [← hW]
      refine (KA.out W HWW.out).mono ?_
      rintro e w1 ⟨rfl, hb1⟩
      obtain ⟨r0, r1, r2, r3, r4, r5⟩ := (HA.out w1 hb1).cells
      obtain ⟨o0, o1, o2, o3, o4, o5⟩ := (HB.out w1 hb1).cells
      go_wp2_with fail
      refine (KB.out w1 hb1).mono ?_
      rintro e w2 ⟨rfl, hb2⟩
      obtain ⟨r0, r1, r2, r3, r4, r5⟩ := (HA.out w2 hb2).cells
      obtain ⟨o0, o1, o2, o3, o4, o5⟩ := (HB.out w2 hb2).cells
      have lt1 := (HA.out w2 hb2).lt
      have lt2 := (HB.out w2 hb2).lt
      obtain ⟨X, hX⟩ : ∃ X, X = w2.alloc (.cells #[.slice A K ca, .int .i64 a.q, .int .i64 a.l, .int .i64 a.m, .int .i64 a.d, .int .i64 a.s] 24) := ⟨_, rfl⟩
      have HXB : Hid (Below W.heap.size W X) := by show Below _ _ _; rw [hX]; exact hb2.alloc hb2.size _
      have HXX : Hid (Box X w2.heap.size (.slice A K ca) a) := by show Box _ _ _ _; rw [hX]; exact Box.new _ _ _
      go_wp2_with fail
      rw [← hX]
      refine (KL.out X HXB.out).mono ?_
      rintro e w3 ⟨rfl, hb3, gb3⟩
      have HX3 := Lib.hid (HXX.out.below gb3 HXX.out.lt)
      obtain ⟨r0, r1, r2, r3, r4, r5⟩ := (HA.out w3 hb3).cells
      obtain ⟨o0, o1, o2, o3, o4, o5⟩ := (HB.out w3 hb3).cells
      go_wp2_with fail
      refine (KS'.out w3 hb3).mono ?_
      rintro e w4 ⟨rfl, hb4, gb4⟩
      obtain ⟨r0, r1, r2, r3, r4, r5⟩ := (HA.out w4 hb4).cells
      obtain ⟨x0, x1, x2, x3, x4, x5⟩ := (HX3.out.below gb4 HX3.out.lt).cells
      cases r
      all_goals
        go_wp2_with fail
        refine (KX'.out w4 hb4).mono ?_
        rintro e w5 ⟨rfl, hb5⟩
        go_wp2
        go_ret
        exact ⟨rfl, HGO.out _ hb5⟩
    · have t1 : ((y : Int) != 0) = true := by simp; omega
      go_enter Tryd.func8, Tryd.ntmps8
      go_wp2_with fail
      rw [← hW]
      refine (KA.out W HWW.out).mono ?_
      rintro e w1 ⟨rfl, hb1⟩
      obtain ⟨r0, r1, r2, r3, r4, r5⟩ := (HA.out w1 hb1).cells
      obtain ⟨o0, o1, o2, o3, o4, o5⟩ := (HB.out w1 hb1).cells
      go_wp2_with fail
      refine (KB.out w1 hb1).mono ?_
      rintro e w2 ⟨rfl, hb2⟩
      go_wp2_with fail
      refine (KL.out w2 hb2).mono ?_
      rintro e w3 ⟨rfl, hb3, _⟩
      go_wp2
      go_ret
      exact ⟨rfl, HGO.out _ hb3⟩
  · have t1 : ((x : Int) != 0) = true := by simp; omega
    go_enter Tryd.func8, Tryd.ntmps8
    go_wp2_with fail
    rw [← hW]
    refine (KA.out W HWW.out).mono ?_
    rintro e w1 ⟨rfl, hb1⟩
    obtain ⟨r0, r1, r2, r3, r4, r5⟩ := (HA.out w1 hb1).cells
    obtain ⟨o0, o1, o2, o3, o4, o5⟩ := (HB.out w1 hb1).cells
    go_wp2_with fail
    refine (KB.out w1 hb1).mono ?_
    rintro e w2 ⟨rfl, hb2⟩
    go_wp2_with fail
    refine (KL.out w2 hb2).mono ?_
    rintro e w3 ⟨rfl, hb3, _⟩
    go_wp2
    go_ret
    exact ⟨rfl, HGO.out _ hb3⟩
end Go.Proofs.YtlbabhddjdhalaaDoor
