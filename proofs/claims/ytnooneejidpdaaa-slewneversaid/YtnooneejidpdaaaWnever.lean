/- SlewNever's walk. -/
import Derived.Test.YtnooneejidpdaaaNear
import Derived.Test.YtnooneejidpdaaaRows2
import Derived.Test.YtnooneejidpdaaaOpen
import Derived.OwnWalk
import Derived.Deep.CutBlock
import Derived.Deep.DeepCutAuto
namespace Go.Proofs.Ytnooneejidpdaaa
open Go.RowKit

theorem ints_at {k : IntKind} {w wr : World} {A : Option Addr} {len cap t : Nat} (h : IntsIn k w A len cap) (ht : t < len) (hb : Below w.heap.size w wr) :
    ∃ g o z, A = some ⟨g, o, none⟩ ∧ (Lit.int k z).wf = true ∧ wr.cell? ⟨g, o + t, none⟩ = some (.int k z) := by
  obtain ⟨g, o, rfl, hg, hc⟩ := h.2.2 (by omega)
  obtain ⟨z, hz, hcell⟩ := hc t ht
  exact ⟨g, o, z, rfl, hz, (hb.cell (p := ⟨g, o + t, none⟩) hg).trans hcell⟩

set_option maxRecDepth 100000 in
set_option maxHeartbeats 8000000 in
theorem walk_never (n : Int) (A1 : Option Addr) (len1 cap1 : Nat) (A2 : Option Addr) (len2 cap2 : Nat) (w : World) (u1 : 0 ≤ n) (u2 : n ≤ 65535) (hz1 : IntsIn .u32 w A1 len1 cap1) (hz2 : IntsIn .i64 w A2 len2 cap2) :
    Calls Try.prog 5 #[.int .u16 n, .slice A1 len1 cap1, .slice A2 len2 cap2] w fun e w' => e = .returned (.bool true) ∧ Below w.heap.size w w' := by
  have KR := Lib.hid (fun w => rate_any n w u1 (by omega))
  obtain ⟨r, hr⟩ : ∃ r, r = 1 + n % 500 := ⟨_, rfl⟩
  rw [← hr] at KR
  have r1 : 1 ≤ r := by omega
  have r2 : r ≤ 500 := by omega
  clear hr
  have KN := Lib.hid (fun w => new_ex (w := w) (h := 0) (c := 0) (p := r) ⟨by omega, by omega, by omega, by omega, r1, r2⟩)
  have KL := Lib.hid (fun w => alive_any w)
  have l1 := hz1.1
  have l2 : cap1 ≤ 9223372036854775807 := by have := hz1.2.1; unfold maxLen at this; omega
  have l3 := hz2.1
  have l4 : cap2 ≤ 9223372036854775807 := by have := hz2.2.1; unfold maxLen at this; omega
  have Z1 := Lib.hid hz1
  have Z2 := Lib.hid hz2
  clear hz1 hz2
  obtain ⟨i0, hi0, hz0, hz1, hz2⟩ := info_parts info2
  go_enter Try.func5, Try.ntmps5
  go_wp2_with fail
  refine (KR.out _).mono ?_
  rintro e w0 ⟨rfl, rfl⟩
  go_wp2_with fail
  refine (KN.out _).mono ?_
  rintro e w1 ⟨g, rfl, hg, hc1, hw1⟩
  have L1 := Lib.hid (And.intro hc1 (And.intro hw1 hg))
  clear hc1 hw1 hg
  go_wp2_with fail
  refine (KL.out _).mono ?_
  rintro e w2 ⟨rfl, hw2⟩
  have L2 := Lib.hid (And.intro (L1.out.1.below hw2) (And.intro (bel_trans L1.out.2.1 hw2) L1.out.2.2))
  clear hw2 L1
  by_cases b1 : 60 < len1
  · go_wp2_with fail
    refine (KL.out _).mono ?_
    rintro e w3 ⟨rfl, hw3⟩
    have L3 := Lib.hid (bel_trans L2.out.2.1 hw3)
    clear hw3 L2
    go_wp2
    go_ret
    exact ⟨rfl, L3.out⟩
  by_cases b2 : 60 < len2
  · go_wp2_with fail
    refine (KL.out _).mono ?_
    rintro e w3 ⟨rfl, hw3⟩
    have L3 := Lib.hid (bel_trans L2.out.2.1 hw3)
    clear hw3 L2
    go_wp2
    go_ret
    exact ⟨rfl, L3.out⟩
  go_wp2_with fail
  go_loopw [9, 10, 11, 50] (fun v9 v10 v11 v50 wr => ∃ (i : Nat) (k : Ck) (h : Int) (hs cs : List Int), i ≤ len1 ∧ v11 = .int .i64 h ∧ v50 = .int .i64 (i : Int) ∧ Hid (k.r = r) ∧ Hid (Inv len2 i h k hs cs) ∧ Hid (Rows2 w g k i i v9 v10 hs cs wr)) (fun _ _ _ s _ => len1 - (intOf s).toNat)
  case atStart => exact ⟨0, ⟨r, 0, 0, 0, 0⟩, 0, [], [], Nat.zero_le _, rfl, rfl, Lib.hid rfl, Lib.hid (Inv.start r r1 r2), Lib.hid (Rows2.start L2.out.1 L2.out.2.1 L2.out.2.2)⟩
  case round =>
    clear L2
    obtain ⟨i, k, h, hs, cs, hi, rfl, rfl, HK, IV, RW⟩ := hrel
    by_cases hiN : i < len1
    · obtain ⟨A9, c9, rfl, hc9⟩ := own_len RW.out.ra
      obtain ⟨A10, c10, rfl, hc10⟩ := own_len RW.out.rb
      obtain ⟨g1, o1, s, rfl, hws, hcell⟩ := ints_at Z1.out hiN RW.out.bel
      obtain ⟨s1, s2⟩ := bounds_u32 hws
      have h0 : 0 ≤ h := Int.le_trans IV.out.ok.h1 IV.out.hk
      have hb := IV.out.hb
      have hb' : h ≤ 257698037700 := by omega
      obtain ⟨x, hx⟩ : ∃ x, h + s = x := ⟨_, rfl⟩
      have x1 : h ≤ x := by omega
      have x2 : x ≤ 4611686018427387903 := by omega
      have x3 : x ≤ h + 4294967295 := by omega
      have K1 := Lib.hid (fun wi (hc : Clk 64 wi g k) => read_any g k x wi hc IV.out.ok)
      rw [Ck.err_of (k := k) (h := x) (Int.le_trans IV.out.hk x1) x2] at K1
      have RD := Lib.hid (rd_bd IV.out.ok (Int.le_trans IV.out.hk x1) x2)
      obtain ⟨cx, hcx⟩ : ∃ cx, cx = rd k x := ⟨_, rfl⟩
      rw [← hcx] at K1 RD
      have CX := Lib.hid hcx
      clear hcx hws hb
      go_wp2_with fail
      refine (K1.out _ RW.out.clk).mono ?_
      rintro e y1 ⟨rfl, hw1⟩
      have R1 := Lib.hid (RW.out.below hw1)
      clear hw1 RW K1 hcell
      go_wp2_with fail
      clear hx
      go_loopw [69] (fun v69 wi => ∃ j : Nat, j ≤ i ∧ v69 = .int .i64 (j : Int) ∧ Hid (Rows2 w g k i i (.slice A9 i c9) (.slice A10 i c10) hs cs wi)) (fun s _ => i - (intOf s).toNat)
      case atStart => exact ⟨0, Nat.zero_le _, rfl, R1⟩
      case round =>
        clear R1
        obtain ⟨j, hj, rfl, R2⟩ := hrel
        by_cases hjN : j < i
        · obtain ⟨p1, a, rfl, ha, hca⟩ := own_at R2.out.ra hjN
          obtain ⟨p2, c, rfl, hcc, hcb⟩ := own_at R2.out.rb hjN
          obtain ⟨q1, q2, q3, q4, q5⟩ := IV.out.each j a c ha hcc
          have nr := q5.near (x := x) IV.out.ok (Int.le_trans IV.out.hk x1) x2 (by omega)
          rw [HK.out, ← CX.out] at nr
          obtain ⟨n1, n2, n3, n4⟩ := nr
          obtain ⟨d, hd⟩ : ∃ d, x - a = d := ⟨_, rfl⟩
          rw [hd] at n1 n2 n4
          have d0 : 0 ≤ d := by omega
          have d1 : d ≤ 4611686018427387903 := by omega
          have KP := Lib.hid (fun w => part_any d r w d0 d1 (by omega) r2)
          have f0 := fl_nn d0 (show 0 ≤ r by omega)
          have f1 := fl_le d0 r2
          generalize fl d r = f at *
          have rb := RD.out
          have KS := Lib.hid (fun w => sub_any cx c w (by omega) (by omega) (by omega) (by omega))
          rw [stp_in (show -9223372036854775808 ≤ cx - c by omega) (show cx - c ≤ 9223372036854775807 by omega)] at KS
          generalize cx - c = y at *
          have t1 : decide (y < d - f - 1) = false := decide_eq_false (by omega)
          have t2 : decide (d + f + 1 < y) = false := decide_eq_false (by omega)
          have t3 : decide (y < 0) = false := decide_eq_false (by omega)
          clear n1 n2 n3 q5 ha hcc rb
          go_wp2_with fail
          refine (KR.out _).mono ?_
          rintro e y2 ⟨rfl, rfl⟩
          go_wp2_with fail
          refine (KP.out _).mono ?_
          rintro e y3 ⟨rfl, hw3⟩
          have R3 := Lib.hid (R2.out.below hw3)
          have hcb3 := (hw3.cell (p := ⟨p2, j, none⟩) (cell_lt hcb)).trans hcb
          clear hw3 R2 KP hca hcb
          go_wp2_with fail
          refine (KS.out _).mono ?_
          rintro e y4 ⟨rfl, rfl⟩
          by_cases hd2 : 2 ≤ d
          · have t4 : decide (y < 1) = false := decide_eq_false (by have := n4 hd2; omega)
            clear n4
            go_wp2
            go_roundw
            case rel => exact ⟨j + 1, by omega, by go_num, R3⟩
            case measure => simp [intOf]; omega
          · have t4 : decide (2 ≤ d) = false := decide_eq_false hd2
            clear n4
            go_wp2
            go_roundw
            case rel => exact ⟨j + 1, by omega, by go_num, R3⟩
            case measure => simp [intOf]; omega
        · have i60 : i < 60 := by omega
          by_cases hiL : i < len2
          · obtain ⟨g2, o2, rfl, hg2, hc2⟩ := Z2.out.2.2 (by omega)
            obtain ⟨y, hwy, hcy0⟩ := hc2 i hiL
            have HC := Lib.hid (And.intro hg2 hcy0)
            have KA := Lib.hid (fun wi (hc : Clk 64 wi g k) => adjust_any g k x wi hc IV.out.ok y)
            have kr : (k.put x y).r = r := by
              rw [← HK.out]
              unfold Ck.put
              rw [if_pos (Ck.err_of (Int.le_trans IV.out.hk x1) x2)]
              rfl
            have KR2 := Lib.hid kr
            rw [Ck.err_of (k := k) (h := x) (Int.le_trans IV.out.hk x1) x2] at KA
            have IV2 := Lib.hid (IV.out.put y x1 x3 i60 hiL)
            rw [← CX.out] at IV2
            clear hg2 hc2 hcy0 hwy kr
            go_wp2_with (first
              | (at_builtin; refine wpList_append_lies _ rfl (.tmp 122) (.tmp 124) 47 rfl w.heap.size 2 i0 (.int .i64 0) 1 8 Try.underlying47 hi0 hz0 hz1 hz2 rfl (by decide) _ i (nums cs) rfl (own_below M1.out.rb ((Below.refl _ _).alloc (Nat.le_refl _) _) (Nat.le_refl _)) ⟨v2.heap.size, 0, none⟩ 1 1 [.int .i64 cx] rfl rfl (cell_one_new _ _ _) (one_int _) (by decide) (by unfold maxLen; omega) (by omega) (by have := M1.out.bel.size; simp; omega) _ rfl ?_; intro e2 d2 v3 ho2 hg2 hat2 _; have M2 := Lib.hid (((M1.out.swap.below ((Below.refl _ _).alloc (Nat.le_refl _) _)).snoc ho2 hg2 hat2).swap); clear ho2 hg2 hat2; have hcy := (M2.out.bel.cell (p := ⟨g2, o2 + i, none⟩) HC.out.1).trans HC.out.2)
              | (at_builtin; refine wpList_append_lies _ rfl (.tmp 118) (.tmp 120) 47 rfl w.heap.size 2 i0 (.int .i64 0) 1 8 Try.underlying47 hi0 hz0 hz1 hz2 rfl (by decide) _ i (nums hs) rfl (own_below R2.out.ra ((Below.refl _ _).alloc (Nat.le_refl _) _) (Nat.le_refl _)) ⟨wr.heap.size, 0, none⟩ 1 1 [.int .i64 x] rfl rfl (cell_one_new _ _ _) (one_int _) (by decide) (by unfold maxLen; omega) (by omega) (by have := R2.out.bel.size; simp; omega) _ rfl ?_; intro e1 d1 v2 ho1 hg1 hat1 _; have M1 := Lib.hid ((R2.out.below ((Below.refl _ _).alloc (Nat.le_refl _) _)).snoc ho1 hg1 hat1); clear ho1 hg1 hat1))
            refine (KA.out _ M2.out.clk).mono ?_
            rintro e v4 ⟨rfl, hc4, hw4⟩
            have M3 := Lib.hid (M2.out.but hc4 hw4)
            clear hc4 hw4 M2 hcy
            go_wp2
            refine ⟨⟨i + 1, k.put x y, x, hs ++ [x], cs ++ [cx], by omega, rfl, by go_num, KR2, IV2, M3⟩, ?_⟩
            simp [intOf]; omega
          · have IV2 := Lib.hid (IV.out.keep x1 x3 i60 (by omega))
            rw [← CX.out] at IV2
            go_wp2_with (first
              | (at_builtin; refine wpList_append_lies _ rfl (.tmp 122) (.tmp 124) 47 rfl w.heap.size 2 i0 (.int .i64 0) 1 8 Try.underlying47 hi0 hz0 hz1 hz2 rfl (by decide) _ i (nums cs) rfl (own_below M1.out.rb ((Below.refl _ _).alloc (Nat.le_refl _) _) (Nat.le_refl _)) ⟨v2.heap.size, 0, none⟩ 1 1 [.int .i64 cx] rfl rfl (cell_one_new _ _ _) (one_int _) (by decide) (by unfold maxLen; omega) (by omega) (by have := M1.out.bel.size; simp; omega) _ rfl ?_; intro e2 d2 v3 ho2 hg2 hat2 _; have M2 := Lib.hid (((M1.out.swap.below ((Below.refl _ _).alloc (Nat.le_refl _) _)).snoc ho2 hg2 hat2).swap); clear ho2 hg2 hat2)
              | (at_builtin; refine wpList_append_lies _ rfl (.tmp 118) (.tmp 120) 47 rfl w.heap.size 2 i0 (.int .i64 0) 1 8 Try.underlying47 hi0 hz0 hz1 hz2 rfl (by decide) _ i (nums hs) rfl (own_below R2.out.ra ((Below.refl _ _).alloc (Nat.le_refl _) _) (Nat.le_refl _)) ⟨wr.heap.size, 0, none⟩ 1 1 [.int .i64 x] rfl rfl (cell_one_new _ _ _) (one_int _) (by decide) (by unfold maxLen; omega) (by omega) (by have := R2.out.bel.size; simp; omega) _ rfl ?_; intro e1 d1 v2 ho1 hg1 hat1 _; have M1 := Lib.hid ((R2.out.below ((Below.refl _ _).alloc (Nat.le_refl _) _)).snoc ho1 hg1 hat1); clear ho1 hg1 hat1))
            refine ⟨⟨i + 1, k, x, hs ++ [x], cs ++ [cx], by omega, rfl, by go_num, HK, IV2, M2⟩, ?_⟩
            simp [intOf]; omega
    · go_wp2
      go_ret
      exact ⟨rfl, RW.out.bel⟩
end Go.Proofs.Ytnooneejidpdaaa
