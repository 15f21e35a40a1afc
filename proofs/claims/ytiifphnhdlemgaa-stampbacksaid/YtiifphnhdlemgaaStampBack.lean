/- For all numbers of 64 bits the statement StampBack returns true: nanoseconds of the first round come back, or 1 less; near ones are found. No condition. -/
import Derived.Test.YtiifphnhdlemgaaRows
import Derived.Test.YtiifphnhdlemgaaDiff
import Derived.WalkKit
import Derived.ProofKit
import Derived.OpenShut
namespace Go.Proofs.Ytiifphnhdlemgaa.stampBack
open Go.ChangeShapes Go.WideShapes Go.ChangeAt Go.RowKit
set_option linter.unusedVariables false      -- a walk need not use every 'w<i>' (that an integer argument fits its kind)

theorem own : ownKnob Try.prog.godebug = none := by kernel_rfl

theorem tmod_bd (n k : Int) (h : 0 < k) : -k < n.tmod k ∧ n.tmod k < k := by
  by_cases hn : n < 0
  · rw [tmod_neg' n _ hn]; have := Int.emod_nonneg (-n) (show k ≠ 0 by omega); have := Int.emod_lt_of_pos (-n) h; omega
  · rw [Int.tmod_eq_emod_of_nonneg (by omega)]; have := Int.emod_nonneg n (show k ≠ 0 by omega); have := Int.emod_lt_of_pos n h; omega
/-- Back from the stamp: the number, or 1 less. -/
theorem back_one (n : Int) (h0 : 0 ≤ n) (h1 : n < 4294967296000000000) : n - 1 ≤ nsf (frm n) ∧ nsf (frm n) ≤ n := by
  have e : frm n = n * 4294967296 / 1000000000 := by
    unfold frm; exact Int.emod_eq_of_lt (by omega) (by omega)
  rw [e]
  have l1 : n * 4294967296 / 1000000000 * 1000000000 ≤ n * 4294967296 := Int.ediv_mul_le _ (by decide)
  have l2 : n * 4294967296 < (n * 4294967296 / 1000000000 + 1) * 1000000000 := Int.lt_ediv_add_one_mul_self _ (by decide)
  generalize n * 4294967296 / 1000000000 = p at *
  unfold nsf
  have k1 : p * 1000000000 / 4294967296 * 4294967296 ≤ p * 1000000000 := Int.ediv_mul_le _ (by decide)
  have k2 : p * 1000000000 < (p * 1000000000 / 4294967296 + 1) * 4294967296 := Int.lt_ediv_add_one_mul_self _ (by decide)
  generalize p * 1000000000 / 4294967296 = r at *
  omega
/-- The short way between the stamps of near numbers is their difference, or 1 less. -/
theorem way_one (n m : Int) (h1 : -2147483648000000000 < n - m) (h2 : n - m < 2147483648000000000) : n - m - 1 ≤ nsf (way (frm n) (frm m)) ∧ nsf (way (frm n) (frm m)) ≤ n - m := by
  unfold frm
  have l1 : n * 4294967296 / 1000000000 * 1000000000 ≤ n * 4294967296 := Int.ediv_mul_le _ (by decide)
  have l2 : n * 4294967296 < (n * 4294967296 / 1000000000 + 1) * 1000000000 := Int.lt_ediv_add_one_mul_self _ (by decide)
  have l3 : m * 4294967296 / 1000000000 * 1000000000 ≤ m * 4294967296 := Int.ediv_mul_le _ (by decide)
  have l4 : m * 4294967296 < (m * 4294967296 / 1000000000 + 1) * 1000000000 := Int.lt_ediv_add_one_mul_self _ (by decide)
  generalize n * 4294967296 / 1000000000 = p at *
  generalize m * 4294967296 / 1000000000 = q at *
  have e : way (p % 18446744073709551616) (q % 18446744073709551616) = p - q := by
    have g1 : -9223372036854775808 ≤ p - q := by omega
    have g2 : p - q ≤ 9223372036854775807 := by omega
    clear l1 l2 l3 l4 h1 h2
    unfold way; omega
  rw [e]
  unfold nsf
  have k1 : (p - q) * 1000000000 / 4294967296 * 4294967296 ≤ (p - q) * 1000000000 := Int.ediv_mul_le _ (by decide)
  have k2 : (p - q) * 1000000000 < ((p - q) * 1000000000 / 4294967296 + 1) * 4294967296 := Int.lt_ediv_add_one_mul_self _ (by decide)
  generalize (p - q) * 1000000000 / 4294967296 = r at *
  omega
set_option maxHeartbeats 1000000 in
theorem walk (a0 : Int) (a1 : Int) (a2 : Int) (w0 : (Lit.int .i64 a0).wf = true) (w1 : (Lit.int .i64 a1).wf = true) (w2 : (Lit.int .i64 a2).wf = true) (w : World) :
    Calls Try.prog 5 #[.int .i64 a0, .int .i64 a1, .int .i64 a2] w fun e w' => e = .returned (.bool true) ∧ Grown w w' := by
  obtain ⟨b0l, b0u⟩ := bounds_i64 w0
  obtain ⟨b1l, b1u⟩ := bounds_i64 w1
  obtain ⟨b2l, b2u⟩ := bounds_i64 w2
  clear w0
  clear w1
  clear w2
  have HA := Lib.hid alive_any
  obtain ⟨m, em⟩ : ∃ m, a1.tmod 2305843009213693952 = m := ⟨_, rfl⟩
  obtain ⟨m1, m2⟩ := tmod_bd a1 2305843009213693952 (by decide)
  rw [em] at m1 m2
  obtain ⟨d, ed⟩ : ∃ d, a2.tmod 2147483648000000000 = d := ⟨_, rfl⟩
  obtain ⟨d1, d2⟩ := tmod_bd a2 2147483648000000000 (by decide)
  rw [ed] at d1 d2
  obtain ⟨n, en⟩ : ∃ n, (IntKind.u64.wrap a0).tmod 4294967296000000000 = n := ⟨_, rfl⟩
  have n1 : 0 ≤ n := by rw [← en, Int.tmod_eq_emod_of_nonneg (by simp only [IntKind.wrap_u64]; omega)]; omega
  have n2 : n < 4294967296000000000 := by rw [← en, Int.tmod_eq_emod_of_nonneg (by simp only [IntKind.wrap_u64]; omega)]; omega
  obtain ⟨f1, f2⟩ := frm_bd n
  obtain ⟨k1, k2⟩ := back_one n n1 n2
  have H2 := fun w => ns_any (frm n) w f1 f2
  obtain ⟨k, ek⟩ : ∃ k, nsf (frm n) = k := ⟨_, rfl⟩
  simp only [ek] at H2 k1 k2
  obtain ⟨v1, v2⟩ := way_one (m + d) m (by omega) (by omega)
  have H5 := fun w => diff_any (frm (m + d)) (frm m) w
  have H7 := fun w => near_any m (frm (m + d)) w (by omega) (by omega)
  obtain ⟨v, ev⟩ : ∃ v, nsf (way (frm (m + d)) (frm m)) = v := ⟨_, rfl⟩
  simp only [ev] at H5 H7 v1 v2
  rw [stp_in (by omega) (by omega)] at H7
  have H6 := fun w => lawnear_any v (m + d - m) w (by omega) (by omega) (by omega) (by omega)
  have H8 := fun w => lawnear_any (m + v) (m + d) w (by omega) (by omega) (by omega) (by omega)
  have H1 := fun w => from_any n w (by omega) (by omega)
  have H3 := fun w => from_any (m + d) w (by omega) (by omega)
  have H4 := fun w => from_any m w (by omega) (by omega)
  have K1 := Lib.hid H1
  have K3 := Lib.hid H3
  have K4 := Lib.hid H4
  have K5 := Lib.hid H5
  have K6 := Lib.hid H6
  have K7 := Lib.hid H7
  have K8 := Lib.hid H8
  clear H1 H3 H4 H5 H6 H7 H8 ek ev f1 f2
  have hk : k = n ∨ k = n - 1 := by omega
  rcases hk with rfl | rfl
  · have K2 := Lib.hid H2
    clear H2
    go_enter Try.func5, Try.ntmps5
    go_wp2_with fail
    refine (K1.out _).mono ?_
    rintro e w1 ⟨rfl, hg1⟩
    go_wp2_with fail
    refine (K2.out _).mono ?_
    rintro e w2 ⟨rfl, hg2⟩
    go_wp2_with fail
    refine (HA.out _).mono ?_
    rintro e w3 ⟨rfl, hg3⟩
    go_wp2_with fail
    refine (K3.out _).mono ?_
    rintro e w4 ⟨rfl, hg4⟩
    go_wp2_with fail
    refine (K4.out _).mono ?_
    rintro e w5 ⟨rfl, hg5⟩
    go_wp2_with fail
    refine (K5.out _).mono ?_
    rintro e w6 ⟨rfl, hg6⟩
    go_wp2_with fail
    refine (K6.out _).mono ?_
    rintro e w7 ⟨rfl, hg7⟩
    go_wp2_with fail
    refine (K3.out _).mono ?_
    rintro e w8 ⟨rfl, hg8⟩
    go_wp2_with fail
    refine (K7.out _).mono ?_
    rintro e w9 ⟨rfl, hg9⟩
    go_wp2_with fail
    refine (K8.out _).mono ?_
    rintro e w10 ⟨rfl, hg10⟩
    go_wp2
    go_ret
    exact ⟨rfl, grown_trans hg1 (grown_trans hg2 (grown_trans hg3 (grown_trans hg4 (grown_trans hg5 (grown_trans hg6 (grown_trans hg7 (grown_trans hg8 (grown_trans hg9 hg10))))))))⟩
  · have K2 := Lib.hid H2
    clear H2
    go_enter Try.func5, Try.ntmps5
    go_wp2_with fail
    refine (K1.out _).mono ?_
    rintro e w1 ⟨rfl, hg1⟩
    go_wp2_with fail
    refine (K2.out _).mono ?_
    rintro e w2 ⟨rfl, hg2⟩
    go_wp2_with fail
    refine (HA.out _).mono ?_
    rintro e w3 ⟨rfl, hg3⟩
    go_wp2_with fail
    refine (K3.out _).mono ?_
    rintro e w4 ⟨rfl, hg4⟩
    go_wp2_with fail
    refine (K4.out _).mono ?_
    rintro e w5 ⟨rfl, hg5⟩
    go_wp2_with fail
    refine (K5.out _).mono ?_
    rintro e w6 ⟨rfl, hg6⟩
    go_wp2_with fail
    refine (K6.out _).mono ?_
    rintro e w7 ⟨rfl, hg7⟩
    go_wp2_with fail
    refine (K3.out _).mono ?_
    rintro e w8 ⟨rfl, hg8⟩
    go_wp2_with fail
    refine (K7.out _).mono ?_
    rintro e w9 ⟨rfl, hg9⟩
    go_wp2_with fail
    refine (K8.out _).mono ?_
    rintro e w10 ⟨rfl, hg10⟩
    go_wp2
    go_ret
    exact ⟨rfl, grown_trans hg1 (grown_trans hg2 (grown_trans hg3 (grown_trans hg4 (grown_trans hg5 (grown_trans hg6 (grown_trans hg7 (grown_trans hg8 (grown_trans hg9 hg10))))))))⟩

set_option maxRecDepth 100000 in
theorem lifted (os : Os) (started : os.Started) (H : Type) (enc : TypeId × Value → H) :
    ReturnsInHanded {} Try.checked os 5 .any (Rows.stampBackSpec.pre6 enc Try.prog Try.f5 Rows.stampBackRow.domain false) (Rows.stampBackSpec.post enc Try.prog Try.f5 false true false false) := by
  refine returnsInHanded_of_change (C := Try.checked) own started (by kernel_rfl) Try.func5
    (ChangeSpec.witness6 (enc := enc) (C := Try.checked) false ⟨#[], #[.int .i64 0, .int .i64 0, .int .i64 0], []⟩ 8 (by kernel_rfl) (by kernel_rfl) (by kernel_rfl) (by kernel_rfl)) ?_
  intro W base args ds gs before hval0 hW hcnd _
  have hval : ∀ (j : Nat) t v, Try.f5.params[j]? = some t → args[j]? = some v → Value.okWide Try.prog W .any base t v := hval0
  have hW' := hW
  obtain ⟨p, q, hA0, hV, rfl, hfz, hnd⟩ := hW
  have hA : DataW.TrodAll enc Try.prog W 0 (fun _ => true) true Try.f5.params.toList args.toList ds p := hA0
  rw [Try.params5] at hA hval
  obtain ⟨v0, vs0, d0, ds0, p0, q0, hargs, rfl, rfl, h0, r0⟩ := trodAll_cons hA
  obtain ⟨v1, vs1, d1, ds1, p1, q1, rfl, rfl, rfl, h1, r1⟩ := trodAll_cons r0
  obtain ⟨v2, vs2, d2, ds2, p2, q2, rfl, rfl, rfl, h2, r2⟩ := trodAll_cons r1
  obtain ⟨rfl, rfl, rfl⟩ := trodAll_nil r2
  obtain rfl : args = #[v0, v1, v2] := by cases args; simp_all
  obtain ⟨rfl, rfl⟩ := trodVars_none hV
  obtain ⟨a0, rfl, rfl, rfl, w0⟩ := open_int Try.underlying2 (hval 0 2 v0 rfl rfl) h0
  obtain ⟨a1, rfl, rfl, rfl, w1⟩ := open_int Try.underlying2 (hval 1 2 v1 rfl rfl) h1
  obtain ⟨a2, rfl, rfl, rfl, w2⟩ := open_int Try.underlying2 (hval 2 2 v2 rfl rfl) h2
  clear hA0 hval0
  simp only [List.append_nil] at hW'
  refine (walk a0 a1 a2 w0 w1 w2 W).mono fun e W' ⟨he, hg⟩ => ?_
  subst he
  exact ⟨_, rfl, post_of_same (pa := []) (pv := []) hW' (fun _ _ _ => (trodAll_cons_mk (shut_bool Try.underlying4 _) trodAll_mk0)) (fun sp _ => (trodAll_cons_mk (shut_int Try.underlying2 w0) (trodAll_cons_mk (shut_int Try.underlying2 w1) (trodAll_cons_mk (shut_int Try.underlying2 w2) trodAll_mk0)))) (fun _ _ => rfl) rfl
    (hg.frame _) hg.2.1 (ok_one (by kernel_rfl) rfl (okWide_bool_mk Try.underlying4 _))⟩

theorem over : Rows.stampBackRow.holds Try.pinned (OpenSpec.ofChange Rows.stampBackSpec) :=
  OpenClaim.holds_of_wide 5 Try.f5 rfl rfl rfl rfl rfl rfl rfl ⟨rfl, rfl, rfl, rfl, rfl⟩ rfl rfl rfl rfl rfl (by kernel_rfl) Try.func5 (by kernel_rfl)
    (of_decide_eq_true (by kernel_rfl)) (by unfold Func.isWrapper; first | (rw [if_pos (by decide +kernel)]; kernel_rfl) | (rw [if_neg (by decide +kernel)]; exact ⟨rfl, rfl⟩))
    (fun os started H enc _ => lifted os started H enc)

theorem proved : Rows.StampBackSaid :=
  over
#print axioms proved
end Go.Proofs.Ytiifphnhdlemgaa.stampBack
