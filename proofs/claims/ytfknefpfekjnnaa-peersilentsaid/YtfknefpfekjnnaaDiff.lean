/- The calls of package stamp that tell how far stamps are apart, and the document's: what each returns. -/
import Derived.Test.YtfknefpfekjnnaaStamp
namespace Go.Proofs.Ytfknefpfekjnnaa
open Go.RowKit

set_option maxHeartbeats 1000000 in
theorem diff_any (a b : Int) (w : World) :
    Calls Try.prog 72 #[.int .u64 a, .int .u64 b] w fun e w' => e = .returned (.int .i64 (nsf (way a b))) ∧ Below w.heap.size w w' := by
  obtain ⟨d, ed⟩ : ∃ d, IntKind.u64.wrap (a - b) = d := ⟨_, rfl⟩
  have d1 : 0 ≤ d := by rw [← ed]; simp only [IntKind.wrap_u64]; omega
  have d2 : d ≤ 18446744073709551615 := by rw [← ed]; simp only [IntKind.wrap_u64]; omega
  have HH := Lib.hid (fun w => halves_any d w d1 d2)
  by_cases hd : d < 9223372036854775808
  · have ew : way a b = d := by unfold way; rw [← ed] at hd ⊢; simp only [IntKind.wrap_u64] at hd ⊢; omega
    rw [ew]
    have HF := Lib.hid (fun w => floor_any (d / 4294967296) (d % 4294967296) w (by omega) (by omega) (by omega) (by omega))
    have E := Lib.hid (show d / 4294967296 * 4294967296 + d % 4294967296 = d by omega)
    have hs : d / 4294967296 < 2147483648 := by omega
    go_enter Try.func72, Try.ntmps72
    go_wp2_with fail
    refine (HH.out _).mono ?_
    rintro e w1 ⟨rfl, hg1⟩
    go_wp2_with fail
    refine (HF.out _).mono ?_
    rintro e w2 ⟨rfl, hg2⟩
    go_wp2
    go_ret
    exact ⟨ret_int (by rw [E.out]), bel_trans hg1 (bel_trans (bel_alloc _ _) hg2)⟩
  · obtain ⟨f, ef⟩ : ∃ f, IntKind.u64.wrap (b - a) = f := ⟨_, rfl⟩
    have ew : way a b = -f := by unfold way; rw [← ed] at hd; rw [← ef]; simp only [IntKind.wrap_u64] at hd ⊢; omega
    have f1 : 0 ≤ f := by rw [← ef]; simp only [IntKind.wrap_u64]; omega
    have f2 : f ≤ 9223372036854775808 := by rw [← ed] at hd; rw [← ef]; simp only [IntKind.wrap_u64] at hd ⊢; omega
    rw [ew]
    have HG := Lib.hid (fun w => halves_any f w f1 (by omega))
    have HC := (fun w => ceil_any (f / 4294967296) (f % 4294967296) w (by omega) (by omega) (by omega) (by omega))
    simp only [show f / 4294967296 * 4294967296 + f % 4294967296 = f by omega] at HC
    obtain ⟨g1, g2⟩ := nsf_bd (s := -f) (by omega) (by omega)
    have KC := Lib.hid HC
    clear HC
    have hs : ¬ d / 4294967296 < 2147483648 := by omega
    go_enter Try.func72, Try.ntmps72
    go_wp2_with fail
    refine (HH.out _).mono ?_
    rintro e w1 ⟨rfl, hg1⟩
    go_wp2_with fail
    refine (HG.out _).mono ?_
    rintro e w2 ⟨rfl, hg2⟩
    go_wp2_with fail
    refine (KC.out _).mono ?_
    rintro e w3 ⟨rfl, hg3⟩
    go_wp2
    go_ret
    exact ⟨rfl, bel_trans hg1 (bel_trans (bel_alloc _ _) (bel_trans hg2 hg3))⟩

set_option maxHeartbeats 1000000 in
theorem rdiff_any (a b : Int) (w : World) :
    Calls Try.prog 65 #[.int .u64 a, .int .u64 b] w fun e w' => e = .returned (.int .i64 (nsf (way a b))) ∧ w = w' := by
  obtain ⟨d, ed⟩ : ∃ d, wrap64 (IntKind.u64.wrap (a - b)) = d := ⟨_, rfl⟩
  have ew : way a b = d := by rw [← ed]; unfold way wrap64; simp only [IntKind.wrap_u64]; omega
  have d1 : -9223372036854775808 ≤ d := by rw [← ew]; exact (way_bd a b).1
  have d2 : d ≤ 9223372036854775807 := by rw [← ew]; exact (way_bd a b).2
  rw [ew]
  by_cases hd : 0 ≤ d
  · have HN := Lib.hid (fun w => rns_any d w hd (by omega))
    go_enter Try.func65, Try.ntmps65
    go_wp2_with fail
    refine (HN.out _).mono ?_
    rintro e w1 ⟨rfl, rfl⟩
    go_wp2
    go_ret
    exact ⟨rfl, rfl⟩
  · obtain ⟨f, ef⟩ : ∃ f, -(d + 1) + 1 = f := ⟨_, rfl⟩
    have f1 : 0 ≤ f := by omega
    have f2 : f ≤ 9223372036854775808 := by omega
    have HN := Lib.hid (fun w => rns_any f w f1 (by omega))
    obtain ⟨g1, g2⟩ := nsf_bd (s := f) (by omega) (by omega)
    have hm : f % 4294967296 * 1000000000 % 4294967296 = f * 1000000000 % 4294967296 := by rw [Int.mul_emod, Int.emod_emod, ← Int.mul_emod]
    obtain ⟨g, eg⟩ : ∃ g, f % 4294967296 * 1000000000 % 4294967296 = g := ⟨_, rfl⟩
    rw [eg] at hm
    rw [show d = -f by omega]
    by_cases hg : g = 0
    · have E := (frm_nsf_same f f1 (by omega) (by rw [← hm]; exact hg)).2
      have K := Lib.hid (show -nsf f = nsf (-f) by rw [← E, Int.neg_neg])
      have hb : (g != 0) = false := by simp [hg]
      clear hm hg E ew
      go_enter Try.func65, Try.ntmps65
      go_wp2_with fail
      refine (HN.out _).mono ?_
      rintro e w1 ⟨rfl, rfl⟩
      go_wp2
      go_ret
      exact ⟨ret_int K.out, rfl⟩
    · have E := (frm_nsf_less f f1 (by omega) (by rw [← hm]; exact hg)).2
      have K := Lib.hid (show -(nsf f + 1) = nsf (-f) by rw [← E, Int.neg_neg])
      have hb : (g != 0) = true := by simp [hg]
      clear hm hg E ew
      go_enter Try.func65, Try.ntmps65
      go_wp2_with fail
      refine (HN.out _).mono ?_
      rintro e w1 ⟨rfl, rfl⟩
      go_wp2
      go_ret
      exact ⟨ret_int K.out, rfl⟩

theorem dif_bd (a b : Int) : -2147483648000000000 ≤ nsf (way a b) ∧ nsf (way a b) ≤ 4294967295999999999 :=
  nsf_bd (way_bd a b).1 (Int.le_trans (way_bd a b).2 (by decide))

end Go.Proofs.Ytfknefpfekjnnaa
