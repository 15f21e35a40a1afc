/- For all nanoseconds of 64 bits, all steps of 32 bits and all two stamps the statement StampOrder returns true: of later nanoseconds the stamp is no earlier; a stamp is nothing away from itself; the other way about it is the other sign, or 1 less. No condition. -/
import Derived.Test.YtiifphnhdlemgaaRows
import Derived.Test.YtiifphnhdlemgaaDiff
import Derived.Test.YtiifphnhdlemgaaArr
import Derived.WalkKit
import Derived.ProofKit
import Derived.OpenShut
namespace Go.Proofs.Ytiifphnhdlemgaa.stampOrder
open Go.ChangeShapes Go.WideShapes Go.ChangeAt Go.RowKit
set_option linter.unusedVariables false      -- a walk need not use every 'w<i>' (that an integer argument fits its kind)

theorem own : ownKnob Try.prog.godebug = none := by kernel_rfl
theorem cells22 : Try.prog.cellsOf 22 = 1 := by kernel_rfl
theorem cells32 : Try.prog.cellsOf 32 = 2 := by kernel_rfl
theorem list2 {α : Type} (l : List α) (h : l.length = 2) : ∃ x0 x1, l = [x0, x1] := by
  match l, h with
  | [x0, x1], _ => exact ⟨x0, x1, rfl⟩

theorem tmod_bd (n k : Int) (h : 0 < k) : -k < n.tmod k ∧ n.tmod k < k := by
  by_cases hn : n < 0
  · rw [tmod_neg' n _ hn]; have := Int.emod_nonneg (-n) (show k ≠ 0 by omega); have := Int.emod_lt_of_pos (-n) h; omega
  · rw [Int.tmod_eq_emod_of_nonneg (by omega)]; have := Int.emod_nonneg n (show k ≠ 0 by omega); have := Int.emod_lt_of_pos n h; omega
theorem later (n b : Int) (h0 : 0 ≤ b) (h1 : b ≤ 4294967295) : 0 ≤ wrap64 (IntKind.u64.wrap (frm (n + b) - frm n)) := by
  have l1 : n * 4294967296 / 1000000000 ≤ (n + b) * 4294967296 / 1000000000 := Int.ediv_le_ediv (by decide) (by omega)
  have l2 : (n + b) * 4294967296 / 1000000000 ≤ n * 4294967296 / 1000000000 + 21474836480 := by
    refine Int.le_trans (Int.ediv_le_ediv (b := n * 4294967296 + 21474836480 * 1000000000) (by decide) (by omega)) ?_
    rw [Int.add_mul_ediv_right _ _ (by decide)]; exact Int.le_refl _
  unfold frm
  generalize n * 4294967296 / 1000000000 = p at *
  generalize (n + b) * 4294967296 / 1000000000 = q at *
  unfold wrap64; simp only [IntKind.wrap_u64]; omega
theorem way_self (a : Int) : nsf (way a a) = 0 := by
  have : way a a = 0 := by unfold way; omega
  rw [this]; rfl
theorem way_other (a b : Int) (h : way a b ≠ -9223372036854775808) : way b a = -way a b := by unfold way at *; omega
theorem nsf_both (z : Int) : nsf z + nsf (-z) = 0 ∨ nsf z + nsf (-z) = -1 := by
  rw [nsf_neg]; unfold nsf
  generalize z * 1000000000 = m
  omega
theorem way_half (a b : Int) (h : way a b = -9223372036854775808) : IntKind.u64.wrap (a - b) = 9223372036854775808 := by
  simp only [IntKind.wrap_u64]; unfold way at h; omega
set_option maxHeartbeats 1000000 in
theorem walk (a0 : Int) (a1 : Int) (a20 : Int) (a21 : Int) (w0 : (Lit.int .i64 a0).wf = true) (w1 : (Lit.int .u32 a1).wf = true) (w20 : (Lit.int .u64 a20).wf = true) (w21 : (Lit.int .u64 a21).wf = true) (w : World) :
    Calls Try.prog 6 #[.int .i64 a0, .int .u32 a1, .agg #[.int .u64 a20, .int .u64 a21]] w fun e w' => e = .returned (.bool true) ∧ Grown w w' := by
  obtain ⟨b0l, b0u⟩ := bounds_i64 w0
  obtain ⟨b1l, b1u⟩ := bounds_u32 w1
  obtain ⟨b20l, b20u⟩ := bounds_u64 w20
  obtain ⟨b21l, b21u⟩ := bounds_u64 w21
  clear w0
  clear w1
  clear w20
  clear w21
  have HA := Lib.hid alive_any
  obtain ⟨m, em⟩ : ∃ m, a0.tmod 2305843009213693952 = m := ⟨_, rfl⟩
  obtain ⟨m1, m2⟩ := tmod_bd a0 2305843009213693952 (by decide)
  rw [em] at m1 m2
  have K1 := Lib.hid (fun w => from_any (m + a1) w (by omega) (by omega))
  have K2 := Lib.hid (fun w => from_any m w (by omega) (by omega))
  have hd := later m a1 b1l b1u
  obtain ⟨d, ed⟩ : ∃ d, wrap64 (IntKind.u64.wrap (frm (m + a1) - frm m)) = d := ⟨_, rfl⟩
  rw [ed] at hd
  have H5 := fun w => diff_any a20 a20 w
  simp only [way_self] at H5
  have K5 := Lib.hid H5
  clear H5
  obtain ⟨x1, x2⟩ := dif_bd a20 a21
  obtain ⟨y1, y2⟩ := dif_bd a21 a20
  have H3 := fun w => diff_any a20 a21 w
  have H4 := fun w => diff_any a21 a20 w
  by_cases hz : way a20 a21 = -9223372036854775808
  · have hw := way_half _ _ hz
    have K3 := Lib.hid H3
    have K4 := Lib.hid H4
    clear H3 H4 hz
    go_enter Try.func6, Try.ntmps6
    go_wp2_with fail
    go_region
    go_wp2_with fail
    refine (K1.out _).mono ?_
    rintro e w1 ⟨rfl, hg1⟩
    go_wp2_with fail
    refine (K2.out _).mono ?_
    rintro e w2 ⟨rfl, hg2⟩
    go_wp2_with fail
    refine (K3.out _).mono ?_
    rintro e w3 ⟨rfl, hg3⟩
    go_wp2_with fail
    refine (K4.out _).mono ?_
    rintro e w4 ⟨rfl, hg4⟩
    go_wp2_with fail
    refine (K5.out _).mono ?_
    rintro e w5 ⟨rfl, hg5⟩
    go_wp2_with fail
    refine (HA.out _).mono ?_
    rintro e w6 ⟨rfl, hg6⟩
    go_wp2
    all_goals
      go_ret
      exact ⟨rfl, grown_trans ((Grown.refl _).alloc _ _) (grown_trans hg1 (grown_trans hg2 (grown_trans hg3 (grown_trans hg4 (grown_trans hg5 hg6)))))⟩
  · have hs := nsf_both (way a20 a21)
    rw [← way_other _ _ hz] at hs
    obtain ⟨x, ex⟩ : ∃ x, nsf (way a20 a21) = x := ⟨_, rfl⟩
    obtain ⟨y, ey⟩ : ∃ y, nsf (way a21 a20) = y := ⟨_, rfl⟩
    rw [ex] at x1 x2
    rw [ey] at y1 y2
    rw [ex, ey] at hs
    simp only [ex] at H3
    simp only [ey] at H4
    have K3 := Lib.hid H3
    have K4 := Lib.hid H4
    clear H3 H4 hz ex ey
    obtain ⟨s, es⟩ : ∃ s, x + y = s := ⟨_, rfl⟩
    rw [es] at hs
    rcases hs with rfl | rfl
    · go_enter Try.func6, Try.ntmps6
      go_wp2_with fail
      go_region
      go_wp2_with fail
      refine (K1.out _).mono ?_
      rintro e w1 ⟨rfl, hg1⟩
      go_wp2_with fail
      refine (K2.out _).mono ?_
      rintro e w2 ⟨rfl, hg2⟩
      go_wp2_with fail
      refine (K3.out _).mono ?_
      rintro e w3 ⟨rfl, hg3⟩
      go_wp2_with fail
      refine (K4.out _).mono ?_
      rintro e w4 ⟨rfl, hg4⟩
      go_wp2_with fail
      refine (K5.out _).mono ?_
      rintro e w5 ⟨rfl, hg5⟩
      go_wp2_with fail
      refine (HA.out _).mono ?_
      rintro e w6 ⟨rfl, hg6⟩
      go_wp2
      all_goals
        go_ret
        exact ⟨rfl, grown_trans ((Grown.refl _).alloc _ _) (grown_trans hg1 (grown_trans hg2 (grown_trans hg3 (grown_trans hg4 (grown_trans hg5 hg6)))))⟩
    · go_enter Try.func6, Try.ntmps6
      go_wp2_with fail
      go_region
      go_wp2_with fail
      refine (K1.out _).mono ?_
      rintro e w1 ⟨rfl, hg1⟩
      go_wp2_with fail
      refine (K2.out _).mono ?_
      rintro e w2 ⟨rfl, hg2⟩
      go_wp2_with fail
      refine (K3.out _).mono ?_
      rintro e w3 ⟨rfl, hg3⟩
      go_wp2_with fail
      refine (K4.out _).mono ?_
      rintro e w4 ⟨rfl, hg4⟩
      go_wp2_with fail
      refine (K5.out _).mono ?_
      rintro e w5 ⟨rfl, hg5⟩
      go_wp2_with fail
      refine (HA.out _).mono ?_
      rintro e w6 ⟨rfl, hg6⟩
      go_wp2
      all_goals
        go_ret
        exact ⟨rfl, grown_trans ((Grown.refl _).alloc _ _) (grown_trans hg1 (grown_trans hg2 (grown_trans hg3 (grown_trans hg4 (grown_trans hg5 hg6)))))⟩

set_option maxRecDepth 100000 in
theorem lifted (os : Os) (started : os.Started) (H : Type) (enc : TypeId × Value → H) :
    ReturnsInHanded {} Try.checked os 6 .any (Rows.stampOrderSpec.pre6 enc Try.prog Try.f6 Rows.stampOrderRow.domain false) (Rows.stampOrderSpec.post enc Try.prog Try.f6 false true false false) := by
  refine returnsInHanded_of_change (C := Try.checked) own started (by kernel_rfl) Try.func6
    (ChangeSpec.witness6 (enc := enc) (C := Try.checked) false ⟨#[], #[.int .i64 0, .int .u32 0, .agg #[.int .u64 0, .int .u64 0]], []⟩ 8 (by kernel_rfl) (by kernel_rfl) (by kernel_rfl) (by kernel_rfl)) ?_
  intro W base args ds gs before hval0 hW hcnd _
  have hval : ∀ (j : Nat) t v, Try.f6.params[j]? = some t → args[j]? = some v → Value.okWide Try.prog W .any base t v := hval0
  have hW' := hW
  obtain ⟨p, q, hA0, hV, rfl, hfz, hnd⟩ := hW
  have hA : DataW.TrodAll enc Try.prog W 0 (fun _ => true) true Try.f6.params.toList args.toList ds p := hA0
  rw [Try.params6] at hA hval
  obtain ⟨v0, vs0, d0, ds0, p0, q0, hargs, rfl, rfl, h0, r0⟩ := trodAll_cons hA
  obtain ⟨v1, vs1, d1, ds1, p1, q1, rfl, rfl, rfl, h1, r1⟩ := trodAll_cons r0
  obtain ⟨v2, vs2, d2, ds2, p2, q2, rfl, rfl, rfl, h2, r2⟩ := trodAll_cons r1
  obtain ⟨rfl, rfl, rfl⟩ := trodAll_nil r2
  obtain rfl : args = #[v0, v1, v2] := by cases args; simp_all
  obtain ⟨rfl, rfl⟩ := trodVars_none hV
  obtain ⟨a0, rfl, rfl, rfl, w0⟩ := open_int Try.underlying2 (hval 0 2 v0 rfl rfl) h0
  obtain ⟨a1, rfl, rfl, rfl, w1⟩ := open_int Try.underlying31 (hval 1 31 v1 rfl rfl) h1
  obtain ⟨xs2, hl2, rfl, rfl, rfl, hw2⟩ := open_ints_array Try.underlying32 Try.underlying22 cells22 cells32 (hval 2 32 v2 rfl rfl) h2
  obtain ⟨a20, a21, rfl⟩ := list2 xs2 hl2
  have w20 := hw2 a20 (by simp)
  have w21 := hw2 a21 (by simp)
  clear hA0 hval0
  simp only [List.append_nil] at hW'
  refine (walk a0 a1 a20 a21 w0 w1 w20 w21 W).mono fun e W' ⟨he, hg⟩ => ?_
  subst he
  exact ⟨_, rfl, post_of_same (pa := []) (pv := []) hW' (fun _ _ _ => (trodAll_cons_mk (shut_bool Try.underlying4 _) trodAll_mk0)) (fun sp _ => (trodAll_cons_mk (shut_int Try.underlying2 w0) (trodAll_cons_mk (shut_int Try.underlying31 w1) (trodAll_cons_mk (shut_ints_array [a20, a21] Try.underlying32 Try.underlying22 cells22 cells32 rfl hw2) trodAll_mk0)))) (fun _ _ => rfl) rfl
    (hg.frame _) hg.2.1 (ok_one (by kernel_rfl) rfl (okWide_bool_mk Try.underlying4 _))⟩

theorem over : Rows.stampOrderRow.holds Try.pinned (OpenSpec.ofChange Rows.stampOrderSpec) :=
  OpenClaim.holds_of_wide 6 Try.f6 rfl rfl rfl rfl rfl rfl rfl ⟨rfl, rfl, rfl, rfl, rfl⟩ rfl rfl rfl rfl rfl (by kernel_rfl) Try.func6 (by kernel_rfl)
    (of_decide_eq_true (by kernel_rfl)) (by unfold Func.isWrapper; first | (rw [if_pos (by decide +kernel)]; kernel_rfl) | (rw [if_neg (by decide +kernel)]; exact ⟨rfl, rfl⟩))
    (fun os started H enc _ => lifted os started H enc)

theorem proved : Rows.StampOrderSaid :=
  over
#print axioms proved
end Go.Proofs.Ytiifphnhdlemgaa.stampOrder
