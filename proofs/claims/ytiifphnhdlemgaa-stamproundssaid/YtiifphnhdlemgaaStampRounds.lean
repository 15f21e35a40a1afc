/- For all nanoseconds of 64 bits the statement StampRounds returns true: a round later the stamp is the same, a second later its upper half is 1 more. No condition. -/
import Derived.Test.YtiifphnhdlemgaaRows
import Derived.Test.YtiifphnhdlemgaaDiff
import Derived.WalkKit
import Derived.ProofKit
import Derived.OpenShut
namespace Go.Proofs.Ytiifphnhdlemgaa.stampRounds
open Go.ChangeShapes Go.WideShapes Go.ChangeAt Go.RowKit
set_option linter.unusedVariables false      -- a walk need not use every 'w<i>' (that an integer argument fits its kind)

theorem own : ownKnob Try.prog.godebug = none := by kernel_rfl

theorem tmod_bd (n k : Int) (h : 0 < k) : -k < n.tmod k ∧ n.tmod k < k := by
  by_cases hn : n < 0
  · rw [tmod_neg' n _ hn]; have := Int.emod_nonneg (-n) (show k ≠ 0 by omega); have := Int.emod_lt_of_pos (-n) h; omega
  · rw [Int.tmod_eq_emod_of_nonneg (by omega)]; have := Int.emod_nonneg n (show k ≠ 0 by omega); have := Int.emod_lt_of_pos n h; omega
theorem frm_round (m : Int) : frm (m + 4294967296000000000) = frm m := by
  have e : (m + 4294967296000000000) * 4294967296 / 1000000000 = m * 4294967296 / 1000000000 + 18446744073709551616 := by
    rw [show (m + 4294967296000000000) * 4294967296 = m * 4294967296 + 18446744073709551616 * 1000000000 by omega, Int.add_mul_ediv_right _ _ (by decide)]
  unfold frm; rw [e]; omega
theorem frm_sec (m : Int) : frm (m + 1000000000) = IntKind.u64.wrap (frm m + 4294967296) := by
  have e : (m + 1000000000) * 4294967296 / 1000000000 = m * 4294967296 / 1000000000 + 4294967296 := by
    rw [show (m + 1000000000) * 4294967296 = m * 4294967296 + 4294967296 * 1000000000 by omega, Int.add_mul_ediv_right _ _ (by decide)]
  simp only [IntKind.wrap_u64]; unfold frm; rw [e]; omega
set_option maxHeartbeats 1000000 in
theorem walk (a0 : Int) (w0 : (Lit.int .i64 a0).wf = true) (w : World) :
    Calls Try.prog 7 #[.int .i64 a0] w fun e w' => e = .returned (.bool true) ∧ Grown w w' := by
  obtain ⟨b0l, b0u⟩ := bounds_i64 w0
  clear w0
  have HA := Lib.hid alive_any
  obtain ⟨m, em⟩ : ∃ m, a0.tmod 2305843009213693952 = m := ⟨_, rfl⟩
  obtain ⟨m1, m2⟩ := tmod_bd a0 2305843009213693952 (by decide)
  rw [em] at m1 m2
  have H1 := fun w => from_any (m + 4294967296000000000) w (by omega) (by omega)
  have H2 := Lib.hid (fun w => from_any m w (by omega) (by omega))
  have H3 := fun w => from_any (m + 1000000000) w (by omega) (by omega)
  simp only [frm_round] at H1
  simp only [frm_sec] at H3
  have K1 := Lib.hid H1
  have K3 := Lib.hid H3
  clear H1 H3
  go_enter Try.func7, Try.ntmps7
  go_wp2_with fail
  refine (HA.out _).mono ?_
  rintro e w1 ⟨rfl, hg1⟩
  go_wp2_with fail
  refine (K1.out _).mono ?_
  rintro e w2 ⟨rfl, hg2⟩
  go_wp2_with fail
  refine (H2.out _).mono ?_
  rintro e w3 ⟨rfl, hg3⟩
  go_wp2_with fail
  refine (K3.out _).mono ?_
  rintro e w4 ⟨rfl, hg4⟩
  go_wp2_with fail
  refine (H2.out _).mono ?_
  rintro e w5 ⟨rfl, hg5⟩
  go_wp2
  go_ret
  exact ⟨rfl, grown_trans hg1 (grown_trans hg2 (grown_trans hg3 (grown_trans hg4 hg5)))⟩

set_option maxRecDepth 100000 in
theorem lifted (os : Os) (started : os.Started) (H : Type) (enc : TypeId × Value → H) :
    ReturnsInHanded {} Try.checked os 7 .any (Rows.stampRoundsSpec.pre6 enc Try.prog Try.f7 Rows.stampRoundsRow.domain false) (Rows.stampRoundsSpec.post enc Try.prog Try.f7 false true false false) := by
  refine returnsInHanded_of_change (C := Try.checked) own started (by kernel_rfl) Try.func7
    (ChangeSpec.witness6 (enc := enc) (C := Try.checked) false ⟨#[], #[.int .i64 0], []⟩ 8 (by kernel_rfl) (by kernel_rfl) (by kernel_rfl) (by kernel_rfl)) ?_
  intro W base args ds gs before hval0 hW hcnd _
  have hval : ∀ (j : Nat) t v, Try.f7.params[j]? = some t → args[j]? = some v → Value.okWide Try.prog W .any base t v := hval0
  have hW' := hW
  obtain ⟨p, q, hA0, hV, rfl, hfz, hnd⟩ := hW
  have hA : DataW.TrodAll enc Try.prog W 0 (fun _ => true) true Try.f7.params.toList args.toList ds p := hA0
  rw [Try.params7] at hA hval
  obtain ⟨v0, vs0, d0, ds0, p0, q0, hargs, rfl, rfl, h0, r0⟩ := trodAll_cons hA
  obtain ⟨rfl, rfl, rfl⟩ := trodAll_nil r0
  obtain rfl : args = #[v0] := by cases args; simp_all
  obtain ⟨rfl, rfl⟩ := trodVars_none hV
  obtain ⟨a0, rfl, rfl, rfl, w0⟩ := open_int Try.underlying2 (hval 0 2 v0 rfl rfl) h0
  clear hA0 hval0
  simp only [List.append_nil] at hW'
  refine (walk a0 w0 W).mono fun e W' ⟨he, hg⟩ => ?_
  subst he
  exact ⟨_, rfl, post_of_same (pa := []) (pv := []) hW' (fun _ _ _ => (trodAll_cons_mk (shut_bool Try.underlying4 _) trodAll_mk0)) (fun sp _ => (trodAll_cons_mk (shut_int Try.underlying2 w0) trodAll_mk0)) (fun _ _ => rfl) rfl
    (hg.frame _) hg.2.1 (ok_one (by kernel_rfl) rfl (okWide_bool_mk Try.underlying4 _))⟩

theorem over : Rows.stampRoundsRow.holds Try.pinned (OpenSpec.ofChange Rows.stampRoundsSpec) :=
  OpenClaim.holds_of_wide 7 Try.f7 rfl rfl rfl rfl rfl rfl rfl ⟨rfl, rfl, rfl, rfl, rfl⟩ rfl rfl rfl rfl rfl (by kernel_rfl) Try.func7 (by kernel_rfl)
    (of_decide_eq_true (by kernel_rfl)) (by unfold Func.isWrapper; first | (rw [if_pos (by decide +kernel)]; kernel_rfl) | (rw [if_neg (by decide +kernel)]; exact ⟨rfl, rfl⟩))
    (fun os started H enc _ => lifted os started H enc)

theorem proved : Rows.StampRoundsSaid :=
  over
#print axioms proved
end Go.Proofs.Ytiifphnhdlemgaa.stampRounds
