/- ConfBack's walk. -/
import Derived.Test.YtlbabhddjdhalaaDoorLaws0
namespace Go.Proofs.YtlbabhddjdhalaaDoor
open Go.RowKit Go.Proofs.Lx

theorem back_text {c : Cfg} (h : checkOf c = 0) : parseOf (textZ c).data.toList = (c, 0, 0) := by
  rw [textZ_list, textC_ok h, parse_print h]
/-- A text that is a config's, parsed. -/
theorem parse_text {c : Cfg} (h : checkOf c = 0) (w : World) (hm : Mx w) : Calls Tryd.prog 17 #[.string (textZ c)] w fun e w' => ∃ A cp, e = .returned (.tuple #[cval (.slice A c.S.length cp) c, .int .i64 0, .int .i64 0]) ∧ Ints w' (.slice A c.S.length cp) c.S ∧ Below w.heap.size w w' := by
  refine (parse_any (textZ c) w (by have := textZ_size c; omega) hm).mono ?_
  rintro e w' ⟨v, h1, h2, h3⟩
  rw [back_text h] at h1 h2
  obtain ⟨A, cp, rfl, _⟩ := h2.ints.len
  exact ⟨A, cp, h1, h2.ints, h3⟩

set_option maxRecDepth 100000 in
set_option maxHeartbeats 4000000 in
theorem walk_confBack (v0 : Value) (s1 : ByteArray) (w : World) (w0 : CfgIn w v0) (w1 : s1.size ≤ maxLen) (hm : Mx w) (ht : Pow w) :
    Calls Tryd.prog 5 #[v0, .string s1] w fun e w' => e = .returned (.bool true) ∧ Below w.heap.size w w' := by
  obtain ⟨u0, a, rfl, I0, s0, q0, l0, m0, d0, z0, n0⟩ := w0
  have R0 : CfgR a := ⟨s0, q0, l0, m0, d0, z0⟩
  obtain ⟨A, ca, rfl, hca⟩ := I0.len
  clear s0 q0 l0 m0 d0 z0
  obtain ⟨W, hW⟩ : ∃ W, W = w.alloc (.cells #[.slice A a.S.length ca, .int .i64 a.q, .int .i64 a.l, .int .i64 a.m, .int .i64 a.d, .int .i64 a.s] 24) := ⟨_, rfl⟩
  have hbW : Below w.heap.size w W := by rw [hW]; exact below_alloc _ _
  have B0 : Box W w.heap.size (.slice A a.S.length ca) a := by rw [hW]; exact Box.new _ _ _
  have GO : ∀ u, Below W.heap.size W u → Below w.heap.size w u := fun u hu => hbW.trans (hu.mono hbW.size)
  have HGO := Lib.hid GO
  have HA : Hid (∀ u, Below W.heap.size W u → Box u w.heap.size (.slice A a.S.length ca) a) := fun u hu => B0.below hu B0.lt
  have KL : Hid (∀ u, Below W.heap.size W u → Calls Tryd.prog 10 #[] u fun e w' => e = .returned (.bool true) ∧ Below W.heap.size W w' ∧ Below u.heap.size u w') := fun u hu =>
    (alive_any u (hm.below (GO u hu) (Nat.le_refl _))).mono fun e w' h => ⟨h.1, hu.trans (h.2.mono hu.size), h.2⟩
  have KA : Hid (∀ u, Below W.heap.size W u → Calls Tryd.prog 11 #[cval (.slice A a.S.length ca) a] u fun e w' => e = .returned (.tuple #[.string (textZ a), .int .i64 (checkOf a : Nat)]) ∧ Below W.heap.size W w') := fun u hu =>
    (print_any _ a u (I0.below (GO u hu) (Nat.le_refl _)) R0 (ht.below (GO u hu) (Nat.le_refl _))).mono fun e w' h => ⟨h.1, hu.trans (h.2.mono hu.size)⟩
  have KP : Hid (∀ u, Below W.heap.size W u → checkOf a = 0 → Calls Tryd.prog 17 #[.string (textZ a)] u fun e w' => ∃ D cd, e = .returned (.tuple #[cval (.slice D a.S.length cd) a, .int .i64 0, .int .i64 0]) ∧ Ints w' (.slice D a.S.length cd) a.S ∧ Below W.heap.size W w') := fun u hu h0 =>
    (parse_text h0 u (hm.below (GO u hu) (Nat.le_refl _))).mono fun e w' ⟨D, cd, h1, h2, h3⟩ => ⟨D, cd, h1, h2, hu.trans (h3.mono hu.size)⟩
  have KS : Hid (∀ u D cd, Below W.heap.size W u → checkOf a = 0 → Ints u (.slice D a.S.length cd) a.S → Calls Tryd.prog 14 #[cval (.slice A a.S.length ca) a, cval (.slice D a.S.length cd) a] u fun e w' => e = .returned (.bool true) ∧ Below W.heap.size W w') := fun u D cd hu h0 hi => by
    have h16 := (check_small h0).1
    have := same_any _ _ a a u (I0.below (GO u hu) (Nat.le_refl _)) hi (by omega) (by omega)
    rw [decide_eq_true rfl] at this
    exact this.mono fun e w' h => ⟨h.1, hu.trans (h.2.mono hu.size)⟩
  -- what is parsed of the text
  obtain ⟨b, hb⟩ : ∃ b, b = (parseOf s1.data.toList).1 := ⟨_, rfl⟩
  obtain ⟨nn, hnn⟩ : ∃ n, n = (parseOf s1.data.toList).2.1 := ⟨_, rfl⟩
  obtain ⟨y, hy⟩ : ∃ y, y = (parseOf s1.data.toList).2.2 := ⟨_, rfl⟩
  have hcase : (y = 0 ∧ Hid (checkOf b = 0)) ∨ (y ≠ 0 ∧ b = Cfg.none) := by
    rw [hy, hb]
    rcases parse_cases s1.data.toList with h | h
    · exact .inl ⟨h.1, h.2⟩
    · exact .inr h
  have KT : Hid (∀ u, Below W.heap.size W u → s1.size ≤ 5000 → Calls Tryd.prog 17 #[.string s1] u fun e w' => ∃ D cd, e = .returned (.tuple #[cval (.slice D b.S.length cd) b, .int .i64 (nn : Nat), .int .i64 (y : Nat)]) ∧ Ints w' (.slice D b.S.length cd) b.S ∧ Below W.heap.size W w') := fun u hu h5 => by
    refine (parse_any s1 u (by omega) (hm.below (GO u hu) (Nat.le_refl _))).mono ?_
    rintro e w' ⟨v, h1, h2, h3⟩
    rw [← hb] at h1 h2
    obtain ⟨D, cd, rfl, _⟩ := h2.ints.len
    rw [← hnn, ← hy] at h1
    exact ⟨D, cd, h1, h2.ints, hu.trans (h3.mono hu.size)⟩
  clear hb hnn hy
  have KPb : Hid (∀ u D cd, Below W.heap.size W u → checkOf b = 0 → Ints u (.slice D b.S.length cd) b.S → Calls Tryd.prog 11 #[cval (.slice D b.S.length cd) b] u fun e w' => e = .returned (.tuple #[.string (textZ b), .int .i64 0]) ∧ Below W.heap.size W w' ∧ Below u.heap.size u w') := fun u D cd hu h0 hi => by
    have := print_any _ b u hi (CfgR.of h0) (ht.below (GO u hu) (Nat.le_refl _))
    rw [h0] at this
    exact this.mono fun e w' h => ⟨h.1, hu.trans (h.2.mono hu.size), h.2⟩
  have KTb : Hid (∀ u, Below W.heap.size W u → checkOf b = 0 → Calls Tryd.prog 17 #[.string (textZ b)] u fun e w' => ∃ D cd, e = .returned (.tuple #[cval (.slice D b.S.length cd) b, .int .i64 0, .int .i64 0]) ∧ Ints w' (.slice D b.S.length cd) b.S ∧ Below W.heap.size W w' ∧ Below u.heap.size u w') := fun u hu h0 =>
    (parse_text h0 u (hm.below (GO u hu) (Nat.le_refl _))).mono fun e w' ⟨D, cd, h1, h2, h3⟩ => ⟨D, cd, h1, h2, hu.trans (h3.mono hu.size), h3⟩
  have KCb : Hid (∀ u D cd, Below W.heap.size W u → checkOf b = 0 → Ints u (.slice D b.S.length cd) b.S → Calls Tryd.prog 13 #[cval (.slice D b.S.length cd) b] u fun e w' => e = .returned (.int .i64 0) ∧ Below W.heap.size W w' ∧ Below u.heap.size u w') := fun u D cd hu h0 hi => by
    have := check_all _ b u hi
    rw [h0] at this
    exact this.mono fun e w' h => ⟨h.1, hu.trans (h.2.mono hu.size), h.2⟩
  have KSb : Hid (∀ u D cd D' cd', Below W.heap.size W u → checkOf b = 0 → Ints u (.slice D b.S.length cd) b.S → Ints u (.slice D' b.S.length cd') b.S → Calls Tryd.prog 14 #[cval (.slice D b.S.length cd) b, cval (.slice D' b.S.length cd') b] u fun e w' => e = .returned (.bool true) ∧ Below W.heap.size W w') := fun u D cd D' cd' hu h0 hi hi' => by
    have h16 := (check_small h0).1
    have := same_any _ _ b b u hi hi' (by omega) (by omega)
    rw [decide_eq_true rfl] at this
    exact this.mono fun e w' h => ⟨h.1, hu.trans (h.2.mono hu.size)⟩
  have HWW : Hid (Below W.heap.size W W) := Below.refl _ _
  unfold cval at KA KP KS KT KPb KTb KCb KSb ⊢
  obtain ⟨N, hN⟩ : ∃ N, N = a.S.length := ⟨_, rfl⟩
  obtain ⟨x, hx⟩ : ∃ x, x = checkOf a := ⟨_, rfl⟩
  obtain ⟨ta, hta⟩ : ∃ t, t = textZ a := ⟨_, rfl⟩
  rw [← hN] at HA KA KP KS n0 hca hW ⊢
  rw [← hx, ← hta] at KA
  rw [← hx, ← hta] at KP
  rw [← hx] at KS
  clear GO hbW B0 I0 R0 hm ht hN hx hta
  unfold maxLen at n0 w1
  by_cases c1 : (100 : Int) < (N : Int)
  · go_enter Tryd.func5, Tryd.ntmps5
    go_wp2_with (rw [← hW]; go_at_call 10; refine (KL.out W HWW.out).mono ?_; rintro e w1 ⟨rfl, hb1, _⟩)
    go_ret
    exact ⟨rfl, HGO.out _ hb1⟩
  by_cases c2 : (5000 : Int) < (s1.size : Int)
  · go_enter Tryd.func5, Tryd.ntmps5
    go_wp2_with (rw [← hW]; go_at_call 10; refine (KL.out W HWW.out).mono ?_; rintro e w1 ⟨rfl, hb1, _⟩)
    go_ret
    exact ⟨rfl, HGO.out _ hb1⟩
  have KT' := Lib.hid (fun u hu => KT.out u hu (by omega))
  clear KT
  -- the four ways
  rcases hcase with ⟨rfl, HB0⟩ | ⟨hy0, rfl⟩
  · have KPb := Lib.hid (fun u D cd hu hi => KPb.out u D cd hu HB0.out hi)
    have KTb := Lib.hid (fun u hu => KTb.out u hu HB0.out)
    have KCb := Lib.hid (fun u D cd hu hi => KCb.out u D cd hu HB0.out hi)
    have KSb := Lib.hid (fun u D cd D' cd' hu hi hi' => KSb.out u D cd D' cd' hu HB0.out hi hi')
    obtain ⟨tb, htb⟩ : ∃ t, t = textZ b := ⟨_, rfl⟩
    obtain ⟨M, hM⟩ : ∃ M, M = b.S.length := ⟨_, rfl⟩
    rw [← htb] at KPb KTb
    rw [← hM] at KPb KTb KCb KSb KT'
    clear HB0 htb hM
    by_cases hx0 : x = 0
    · subst hx0
      go_enter Tryd.func5, Tryd.ntmps5
      go_wp2_with fail
      rw [← hW]
      refine (KA.out W HWW.out).mono ?_
      rintro e w1 ⟨rfl, hb1⟩
      obtain ⟨r0, r1, r2, r3, r4, r5⟩ := (HA.out w1 hb1).cells

      go_wp2_with fail
      refine (KP.out w1 hb1 (by trivial)).mono ?_
      rintro e w2 ⟨D, cd, rfl, hi2, hb2⟩
      obtain ⟨r0, r1, r2, r3, r4, r5⟩ := (HA.out w2 hb2).cells
      have lt2 := (HA.out w2 hb2).lt
      have HI2 := Lib.hid hi2
      clear hi2
      obtain ⟨X, hX⟩ : ∃ X, X = w2.alloc (.cells #[.slice D N cd, .int .i64 a.q, .int .i64 a.l, .int .i64 a.m, .int .i64 a.d, .int .i64 a.s] 24) := ⟨_, rfl⟩
      have HXB : Hid (Below W.heap.size W X) := by show Below _ _ _; rw [hX]; exact hb2.alloc hb2.size _
      have HXI : Hid (Ints X (.slice D N cd) a.S) := by show Ints _ _ _; rw [hX]; exact HI2.out.alloc _
      go_wp2_with fail
      rw [← hX]
      refine (KS.out X D cd HXB.out (by trivial) HXI.out).mono ?_
      rintro e w3 ⟨rfl, hb3⟩
      clear hX HXB HXI HI2 r0 r1 r2 r3 r4 r5
      go_wp2_with fail

      refine (KT'.out w3 hb3).mono ?_
      rintro e w4 ⟨E, ce, rfl, hi4, hb4⟩
      have HI4 := Lib.hid hi4
      clear hi4
      obtain ⟨Y, hY⟩ : ∃ Y, Y = w4.alloc (.cells #[.slice E M ce, .int .i64 b.q, .int .i64 b.l, .int .i64 b.m, .int .i64 b.d, .int .i64 b.s] 24) := ⟨_, rfl⟩
      have HYB : Hid (Below W.heap.size W Y) := by show Below _ _ _; rw [hY]; exact hb4.alloc hb4.size _
      have HYI : Hid (Ints Y (.slice E M ce) b.S) := by show Ints _ _ _; rw [hY]; exact HI4.out.alloc _
      have HYX : Hid (Box Y w4.heap.size (.slice E M ce) b) := by show Box _ _ _ _; rw [hY]; exact Box.new _ _ _
      go_wp2_with fail
      rw [← hY]
      refine (KPb.out Y E ce HYB.out HYI.out).mono ?_
      rintro e w5 ⟨rfl, hb5, gb5⟩
      have HX5 := Lib.hid (HYX.out.below gb5 HYX.out.lt)
      have HI5 := Lib.hid (HYI.out.below gb5 (Nat.le_refl _))
      clear gb5 hY HYB HYI
      go_wp2_with fail
      refine (KTb.out w5 hb5).mono ?_
      rintro e w6 ⟨F, cf, rfl, hi6, hb6, gb6⟩
      have HX6 := Lib.hid (HX5.out.below gb6 HX5.out.lt)
      have HI6 := Lib.hid (HI5.out.below gb6 (Nat.le_refl _))
      have HJ6 := Lib.hid hi6
      clear gb6 hi6
      obtain ⟨Z, hZ⟩ : ∃ Z, Z = w6.alloc (.cells #[.slice F M cf, .int .i64 b.q, .int .i64 b.l, .int .i64 b.m, .int .i64 b.d, .int .i64 b.s] 24) := ⟨_, rfl⟩
      have HZB : Hid (Below W.heap.size W Z) := by show Below _ _ _; rw [hZ]; exact hb6.alloc hb6.size _
      have HZ6 : Hid (Below w6.heap.size w6 Z) := by show Below _ _ _; rw [hZ]; exact below_alloc _ _
      have HZX : Hid (Box Z w6.heap.size (.slice F M cf) b) := by show Box _ _ _ _; rw [hZ]; exact Box.new _ _ _
      go_wp2_with fail
      rw [← hZ]
      refine (KL.out Z HZB.out).mono ?_
      rintro e w7 ⟨rfl, hb7, gb7⟩
      have HX7 := Lib.hid ((HX6.out.below HZ6.out HX6.out.lt).below gb7 (Nat.lt_of_lt_of_le HX6.out.lt HZ6.out.size))
      have HY7 := Lib.hid (HZX.out.below gb7 HZX.out.lt)
      have HI7 := Lib.hid ((HI6.out.below HZ6.out (Nat.le_refl _)).below gb7 (Nat.le_refl _))
      have HJ7 := Lib.hid ((HJ6.out.below HZ6.out (Nat.le_refl _)).below gb7 (Nat.le_refl _))
      clear gb7 hZ HZB HZX HZ6 HI6 HJ6 HX6 HX5 HI5
      obtain ⟨x0, x1, x2, x3, x4, x5⟩ := HX7.out.cells
      go_wp2_with fail
      refine (KCb.out w7 E ce hb7 HI7.out).mono ?_
      rintro e w8 ⟨rfl, hb8, gb8⟩
      obtain ⟨x0, x1, x2, x3, x4, x5⟩ := (HX7.out.below gb8 HX7.out.lt).cells
      obtain ⟨y0, y1, y2, y3, y4, y5⟩ := (HY7.out.below gb8 HY7.out.lt).cells
      have HI8 := Lib.hid (HI7.out.below gb8 (Nat.le_refl _))
      have HJ8 := Lib.hid (HJ7.out.below gb8 (Nat.le_refl _))
      clear gb8
      go_wp2_with fail
      refine (KSb.out w8 F cf E ce hb8 HJ8.out HI8.out).mono ?_
      rintro e w9 ⟨rfl, hb9⟩
      go_wp2
      go_ret
      exact ⟨rfl, HGO.out _ hb9⟩
    · have t1 : ((x : Int) == 0) = false := by simp; omega
      go_enter Tryd.func5, Tryd.ntmps5
      go_wp2_with fail
      rw [← hW]
      refine (KA.out W HWW.out).mono ?_
      rintro e w1 ⟨rfl, hb1⟩
      obtain ⟨r0, r1, r2, r3, r4, r5⟩ := (HA.out w1 hb1).cells

      go_wp2_with fail
      obtain ⟨w3, hw3⟩ : ∃ w3, w3 = w1 := ⟨_, rfl⟩
      subst hw3
      have hb3 := hb1
      clear r0 r1 r2 r3 r4 r5

      refine (KT'.out w3 hb3).mono ?_
      rintro e w4 ⟨E, ce, rfl, hi4, hb4⟩
      have HI4 := Lib.hid hi4
      clear hi4
      obtain ⟨Y, hY⟩ : ∃ Y, Y = w4.alloc (.cells #[.slice E M ce, .int .i64 b.q, .int .i64 b.l, .int .i64 b.m, .int .i64 b.d, .int .i64 b.s] 24) := ⟨_, rfl⟩
      have HYB : Hid (Below W.heap.size W Y) := by show Below _ _ _; rw [hY]; exact hb4.alloc hb4.size _
      have HYI : Hid (Ints Y (.slice E M ce) b.S) := by show Ints _ _ _; rw [hY]; exact HI4.out.alloc _
      have HYX : Hid (Box Y w4.heap.size (.slice E M ce) b) := by show Box _ _ _ _; rw [hY]; exact Box.new _ _ _
      go_wp2_with fail
      rw [← hY]
      refine (KPb.out Y E ce HYB.out HYI.out).mono ?_
      rintro e w5 ⟨rfl, hb5, gb5⟩
      have HX5 := Lib.hid (HYX.out.below gb5 HYX.out.lt)
      have HI5 := Lib.hid (HYI.out.below gb5 (Nat.le_refl _))
      clear gb5 hY HYB HYI
      go_wp2_with fail
      refine (KTb.out w5 hb5).mono ?_
      rintro e w6 ⟨F, cf, rfl, hi6, hb6, gb6⟩
      have HX6 := Lib.hid (HX5.out.below gb6 HX5.out.lt)
      have HI6 := Lib.hid (HI5.out.below gb6 (Nat.le_refl _))
      have HJ6 := Lib.hid hi6
      clear gb6 hi6
      obtain ⟨Z, hZ⟩ : ∃ Z, Z = w6.alloc (.cells #[.slice F M cf, .int .i64 b.q, .int .i64 b.l, .int .i64 b.m, .int .i64 b.d, .int .i64 b.s] 24) := ⟨_, rfl⟩
      have HZB : Hid (Below W.heap.size W Z) := by show Below _ _ _; rw [hZ]; exact hb6.alloc hb6.size _
      have HZ6 : Hid (Below w6.heap.size w6 Z) := by show Below _ _ _; rw [hZ]; exact below_alloc _ _
      have HZX : Hid (Box Z w6.heap.size (.slice F M cf) b) := by show Box _ _ _ _; rw [hZ]; exact Box.new _ _ _
      go_wp2_with fail
      rw [← hZ]
      refine (KL.out Z HZB.out).mono ?_
      rintro e w7 ⟨rfl, hb7, gb7⟩
      have HX7 := Lib.hid ((HX6.out.below HZ6.out HX6.out.lt).below gb7 (Nat.lt_of_lt_of_le HX6.out.lt HZ6.out.size))
      have HY7 := Lib.hid (HZX.out.below gb7 HZX.out.lt)
      have HI7 := Lib.hid ((HI6.out.below HZ6.out (Nat.le_refl _)).below gb7 (Nat.le_refl _))
      have HJ7 := Lib.hid ((HJ6.out.below HZ6.out (Nat.le_refl _)).below gb7 (Nat.le_refl _))
      clear gb7 hZ HZB HZX HZ6 HI6 HJ6 HX6 HX5 HI5
      obtain ⟨x0, x1, x2, x3, x4, x5⟩ := HX7.out.cells
      go_wp2_with fail
      refine (KCb.out w7 E ce hb7 HI7.out).mono ?_
      rintro e w8 ⟨rfl, hb8, gb8⟩
      obtain ⟨x0, x1, x2, x3, x4, x5⟩ := (HX7.out.below gb8 HX7.out.lt).cells
      obtain ⟨y0, y1, y2, y3, y4, y5⟩ := (HY7.out.below gb8 HY7.out.lt).cells
      have HI8 := Lib.hid (HI7.out.below gb8 (Nat.le_refl _))
      have HJ8 := Lib.hid (HJ7.out.below gb8 (Nat.le_refl _))
      clear gb8
      go_wp2_with fail
      refine (KSb.out w8 F cf E ce hb8 HJ8.out HI8.out).mono ?_
      rintro e w9 ⟨rfl, hb9⟩
      go_wp2
      go_ret
      exact ⟨rfl, HGO.out _ hb9⟩
  · have t2 : ((y : Int) != 0) = true := by simp; omega
    have t3 : decide ((0 : Int) ≤ (nn : Int)) = true := by simp
    unfold Cfg.none at KT'
    simp only [List.length_nil] at KT'
    clear KPb KTb KCb KSb
    by_cases hx0 : x = 0
    · subst hx0
      go_enter Tryd.func5, Tryd.ntmps5
      go_wp2_with fail
      rw [← hW]
      refine (KA.out W HWW.out).mono ?_
      rintro e w1 ⟨rfl, hb1⟩
      obtain ⟨r0, r1, r2, r3, r4, r5⟩ := (HA.out w1 hb1).cells

      go_wp2_with fail
      refine (KP.out w1 hb1 (by trivial)).mono ?_
      rintro e w2 ⟨D, cd, rfl, hi2, hb2⟩
      obtain ⟨r0, r1, r2, r3, r4, r5⟩ := (HA.out w2 hb2).cells
      have lt2 := (HA.out w2 hb2).lt
      have HI2 := Lib.hid hi2
      clear hi2
      obtain ⟨X, hX⟩ : ∃ X, X = w2.alloc (.cells #[.slice D N cd, .int .i64 a.q, .int .i64 a.l, .int .i64 a.m, .int .i64 a.d, .int .i64 a.s] 24) := ⟨_, rfl⟩
      have HXB : Hid (Below W.heap.size W X) := by show Below _ _ _; rw [hX]; exact hb2.alloc hb2.size _
      have HXI : Hid (Ints X (.slice D N cd) a.S) := by show Ints _ _ _; rw [hX]; exact HI2.out.alloc _
      go_wp2_with fail
      rw [← hX]
      refine (KS.out X D cd HXB.out (by trivial) HXI.out).mono ?_
      rintro e w3 ⟨rfl, hb3⟩
      clear hX HXB HXI HI2 r0 r1 r2 r3 r4 r5
      go_wp2_with fail

      refine (KT'.out w3 hb3).mono ?_
      rintro e w4 ⟨E, ce, rfl, hi4, hb4⟩
      obtain ⟨Y, hY⟩ : ∃ Y, Y = w4.alloc (.cells #[.slice E 0 ce, .int .i64 0, .int .i64 0, .int .i64 0, .int .i64 0, .int .i64 0] 24) := ⟨_, rfl⟩
      have HYB : Hid (Below W.heap.size W Y) := by show Below _ _ _; rw [hY]; exact hb4.alloc hb4.size _
      have HYX : Hid (Box Y w4.heap.size (.slice E 0 ce) Cfg.none) := by show Box _ _ _ _; rw [hY]; exact Box.new w4 (.slice E 0 ce) Cfg.none
      go_wp2_with fail
      rw [← hY]
      refine (KL.out Y HYB.out).mono ?_
      rintro e w5 ⟨rfl, hb5, gb5⟩
      obtain ⟨x0, _⟩ := (HYX.out.below gb5 HYX.out.lt).cells
      go_wp2
      go_ret
      exact ⟨rfl, HGO.out _ hb5⟩
    · have t1 : ((x : Int) == 0) = false := by simp; omega
      go_enter Tryd.func5, Tryd.ntmps5
      go_wp2_with fail
      rw [← hW]
      refine (KA.out W HWW.out).mono ?_
      rintro e w1 ⟨rfl, hb1⟩
      obtain ⟨r0, r1, r2, r3, r4, r5⟩ := (HA.out w1 hb1).cells

      go_wp2_with fail
      obtain ⟨w3, hw3⟩ : ∃ w3, w3 = w1 := ⟨_, rfl⟩
      subst hw3
      have hb3 := hb1
      clear r0 r1 r2 r3 r4 r5

      refine (KT'.out w3 hb3).mono ?_
      rintro e w4 ⟨E, ce, rfl, hi4, hb4⟩
      obtain ⟨Y, hY⟩ : ∃ Y, Y = w4.alloc (.cells #[.slice E 0 ce, .int .i64 0, .int .i64 0, .int .i64 0, .int .i64 0, .int .i64 0] 24) := ⟨_, rfl⟩
      have HYB : Hid (Below W.heap.size W Y) := by show Below _ _ _; rw [hY]; exact hb4.alloc hb4.size _
      have HYX : Hid (Box Y w4.heap.size (.slice E 0 ce) Cfg.none) := by show Box _ _ _ _; rw [hY]; exact Box.new w4 (.slice E 0 ce) Cfg.none
      go_wp2_with fail
      rw [← hY]
      refine (KL.out Y HYB.out).mono ?_
      rintro e w5 ⟨rfl, hb5, gb5⟩
      obtain ⟨x0, _⟩ := (HYX.out.below gb5 HYX.out.lt).cells
      go_wp2
      go_ret
      exact ⟨rfl, HGO.out _ hb5⟩
end Go.Proofs.YtlbabhddjdhalaaDoor
