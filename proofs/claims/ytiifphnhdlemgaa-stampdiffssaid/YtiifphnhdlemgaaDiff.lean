/- The calls of package stamp that tell how far stamps are apart, and the document's: what each returns. -/
import Derived.Test.YtiifphnhdlemgaaWalks
namespace Go.Proofs.Ytiifphnhdlemgaa
open Go.RowKit

set_option maxHeartbeats 1000000 in
theorem diff_any (a b : Int) (w : World) :
    Calls Try.prog 15 #[.int .u64 a, .int .u64 b] w fun e w' => e = .returned (.int .i64 (nsf (way a b))) ∧ Grown w w' := by
  obtain ⟨d, ed⟩ : ∃ d, IntKind.u64.wrap (a - b) = d := ⟨_, rfl⟩
  have d1 : 0 ≤ d := by rw [← ed]; simp only [IntKind.wrap_u64]; omega
  have d2 : d ≤ 18446744073709551615 := by rw [← ed]; simp only [IntKind.wrap_u64]; omega
  have HH := Lib.hid (fun w => halves_any d w d1 d2)
  by_cases hd : d < 9223372036854775808
  · have ew : way a b = d := by unfold way; rw [← ed] at hd ⊢; simp only [IntKind.wrap_u64] at hd ⊢; omega
    rw [ew]
    have HF := Lib.hid (fun w => floor_any (d / 4294967296) (d % 4294967296) w (by omega) (by omega) (by omega) (by omega))
    have E := Lib.hid (show d / 4294967296 * 4294967296 + d % 4294967296 = d by omega)
    have hs : d / 4294967296 < 2147483648 := by omega
    go_enter Try.func15, Try.ntmps15
    go_wp2_with fail
    refine (HH.out _).mono ?_
    rintro e w1 ⟨rfl, hg1⟩
    go_wp2_with fail
    refine (HF.out _).mono ?_
    rintro e w2 ⟨rfl, hg2⟩
    go_wp2
    go_ret
    exact ⟨ret_int (by rw [E.out]), grown_trans hg1 (grown_trans ((Grown.refl _).alloc _ _) hg2)⟩
  · obtain ⟨f, ef⟩ : ∃ f, IntKind.u64.wrap (b - a) = f := ⟨_, rfl⟩
    have ew : way a b = -f := by unfold way; rw [← ed] at hd; rw [← ef]; simp only [IntKind.wrap_u64] at hd ⊢; omega
    have f1 : 0 ≤ f := by rw [← ef]; simp only [IntKind.wrap_u64]; omega
    have f2 : f ≤ 9223372036854775808 := by rw [← ed] at hd; rw [← ef]; simp only [IntKind.wrap_u64] at hd ⊢; omega
    rw [ew]
    have HG := Lib.hid (fun w => halves_any f w f1 (by omega))
    have HC := (fun w => ceil_any (f / 4294967296) (f % 4294967296) w (by omega) (by omega) (by omega) (by omega))
    simp only [show f / 4294967296 * 4294967296 + f % 4294967296 = f by omega] at HC
    obtain ⟨g1, g2⟩ := nsf_bd (s := -f) (by omega) (by omega)
    have KC := Lib.hid HC
    clear HC
    have hs : ¬ d / 4294967296 < 2147483648 := by omega
    go_enter Try.func15, Try.ntmps15
    go_wp2_with fail
    refine (HH.out _).mono ?_
    rintro e w1 ⟨rfl, hg1⟩
    go_wp2_with fail
    refine (HG.out _).mono ?_
    rintro e w2 ⟨rfl, hg2⟩
    go_wp2_with fail
    refine (KC.out _).mono ?_
    rintro e w3 ⟨rfl, hg3⟩
    go_wp2
    go_ret
    exact ⟨rfl, grown_trans hg1 (grown_trans ((Grown.refl _).alloc _ _) (grown_trans hg2 hg3))⟩

set_option maxHeartbeats 1000000 in
theorem rdiff_any (a b : Int) (w : World) :
    Calls Try.prog 16 #[.int .u64 a, .int .u64 b] w fun e w' => e = .returned (.int .i64 (nsf (way a b))) ∧ w = w' := by
  obtain ⟨d, ed⟩ : ∃ d, wrap64 (IntKind.u64.wrap (a - b)) = d := ⟨_, rfl⟩
  have ew : way a b = d := by rw [← ed]; unfold way wrap64; simp only [IntKind.wrap_u64]; omega
  have d1 : -9223372036854775808 ≤ d := by rw [← ew]; exact (way_bd a b).1
  have d2 : d ≤ 9223372036854775807 := by rw [← ew]; exact (way_bd a b).2
  rw [ew]
  by_cases hd : 0 ≤ d
  · have HN := Lib.hid (fun w => rns_any d w hd (by omega))
    go_enter Try.func16, Try.ntmps16
    go_wp2_with fail
    refine (HN.out _).mono ?_
    rintro e w1 ⟨rfl, rfl⟩
    go_wp2
    go_ret
    exact ⟨rfl, rfl⟩
  · obtain ⟨f, ef⟩ : ∃ f, -(d + 1) + 1 = f := ⟨_, rfl⟩
    have f1 : 0 ≤ f := by omega
    have f2 : f ≤ 9223372036854775808 := by omega
    have HN := Lib.hid (fun w => rns_any f w f1 (by omega))
    obtain ⟨g1, g2⟩ := nsf_bd (s := f) (by omega) (by omega)
    have hm : f % 4294967296 * 1000000000 % 4294967296 = f * 1000000000 % 4294967296 := by rw [Int.mul_emod, Int.emod_emod, ← Int.mul_emod]
    obtain ⟨g, eg⟩ : ∃ g, f % 4294967296 * 1000000000 % 4294967296 = g := ⟨_, rfl⟩
    rw [eg] at hm
    rw [show d = -f by omega]
    by_cases hg : g = 0
    · have E := (frm_nsf_same f f1 (by omega) (by rw [← hm]; exact hg)).2
      have K := Lib.hid (show -nsf f = nsf (-f) by rw [← E, Int.neg_neg])
      have hb : (g != 0) = false := by simp [hg]
      clear hm hg E ew
      go_enter Try.func16, Try.ntmps16
      go_wp2_with fail
      refine (HN.out _).mono ?_
      rintro e w1 ⟨rfl, rfl⟩
      go_wp2
      go_ret
      exact ⟨ret_int K.out, rfl⟩
    · have E := (frm_nsf_less f f1 (by omega) (by rw [← hm]; exact hg)).2
      have K := Lib.hid (show -(nsf f + 1) = nsf (-f) by rw [← E, Int.neg_neg])
      have hb : (g != 0) = true := by simp [hg]
      clear hm hg E ew
      go_enter Try.func16, Try.ntmps16
      go_wp2_with fail
      refine (HN.out _).mono ?_
      rintro e w1 ⟨rfl, rfl⟩
      go_wp2
      go_ret
      exact ⟨ret_int K.out, rfl⟩

theorem dif_bd (a b : Int) : -2147483648000000000 ≤ nsf (way a b) ∧ nsf (way a b) ≤ 4294967295999999999 :=
  nsf_bd (way_bd a b).1 (Int.le_trans (way_bd a b).2 (by decide))

theorem near_any (n s : Int) (w : World) (h1 : -9223372036854775808 ≤ n) (h2 : n ≤ 9223372036854775807) :
    Calls Try.prog 17 #[.int .i64 n, .int .u64 s] w fun e w' => e = .returned (.int .i64 (stp (n + nsf (way s (frm n))))) ∧ Grown w w' := by
  obtain ⟨g1, g2⟩ := dif_bd s (frm n)
  have HN := Lib.hid (fun w => from_any n w h1 h2)
  have HD := Lib.hid (fun w => diff_any s (frm n) w)
  have HA := Lib.hid (fun w => add_any n (nsf (way s (frm n))) w h1 h2 (by omega) (by omega))
  go_enter Try.func17, Try.ntmps17
  go_wp2_with fail
  refine (HN.out _).mono ?_
  rintro e w1 ⟨rfl, hg1⟩
  go_wp2_with fail
  refine (HD.out _).mono ?_
  rintro e w2 ⟨rfl, hg2⟩
  go_wp2_with fail
  refine (HA.out _).mono ?_
  rintro e w3 ⟨rfl, rfl⟩
  go_wp2
  go_ret
  exact ⟨rfl, grown_trans hg1 hg2⟩

theorem rnear_any (n s : Int) (w : World) (h1 : -9223372036854775808 ≤ n) (h2 : n ≤ 9223372036854775807) :
    Calls Try.prog 18 #[.int .i64 n, .int .u64 s] w fun e w' => e = .returned (.int .i64 (stp (n + nsf (way s (frm n))))) ∧ w = w' := by
  obtain ⟨g1, g2⟩ := dif_bd s (frm n)
  have HN := Lib.hid (fun w => rfrom_any n w h1 h2)
  have HD := Lib.hid (fun w => rdiff_any s (frm n) w)
  have HA := Lib.hid (fun w => radd_any n (nsf (way s (frm n))) w h1 h2 (by omega) (by omega))
  go_enter Try.func18, Try.ntmps18
  go_wp2_with fail
  refine (HN.out _).mono ?_
  rintro e w1 ⟨rfl, rfl⟩
  go_wp2_with fail
  refine (HD.out _).mono ?_
  rintro e w2 ⟨rfl, rfl⟩
  go_wp2_with fail
  refine (HA.out _).mono ?_
  rintro e w3 ⟨rfl, rfl⟩
  go_wp2
  go_ret
  exact ⟨rfl, rfl⟩

/-- A number that is at most 2 away from another one is near it. -/
theorem lawnear_any (a b : Int) (w : World) (h1 : b - 2 ≤ a) (h2 : a ≤ b + 2) (h3 : -9223372036854775800 ≤ b) (h4 : b ≤ 9223372036854775800) :
    Calls Try.prog 19 #[.int .i64 a, .int .i64 b, .int .i64 2] w fun e w' => e = .returned (.bool true) ∧ Grown w w' := by
  go_enter Try.func19, Try.ntmps19
  go_wp2
  go_ret
  exact ⟨rfl, Grown.refl _⟩

theorem alive_any (w : World) : Calls Try.prog 10 #[] w fun e w' => e = .returned (.bool true) ∧ Grown w w' := by
  have H1 := fun w => from_any 1000000000 w (by decide) (by decide)
  have H2 := fun w => from_any (-1) w (by decide) (by decide)
  have H3 := fun w => diff_any 0 1 w
  simp only [show frm 1000000000 = 4294967296 by decide] at H1
  simp only [show frm (-1) = 18446744073709551611 by decide] at H2
  simp only [show nsf (way 0 1) = -1 by decide] at H3
  have K1 := Lib.hid H1
  have K2 := Lib.hid H2
  have K3 := Lib.hid H3
  clear H1 H2 H3
  go_enter Try.func10, Try.ntmps10
  go_wp2_with fail
  refine (K1.out _).mono ?_
  rintro e w1 ⟨rfl, hg1⟩
  go_wp2_with fail
  refine (K2.out _).mono ?_
  rintro e w2 ⟨rfl, hg2⟩
  go_wp2_with fail
  refine (K3.out _).mono ?_
  rintro e w3 ⟨rfl, hg3⟩
  go_wp2
  go_ret
  exact ⟨rfl, grown_trans hg1 (grown_trans hg2 hg3)⟩
end Go.Proofs.Ytiifphnhdlemgaa
