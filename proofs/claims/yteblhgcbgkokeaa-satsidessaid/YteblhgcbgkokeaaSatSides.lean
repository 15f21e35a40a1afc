/- For all three numbers of 64 bits the statement SatSides returns true: a difference is the sum with the other sign; what is kept between two ends is between them. No condition. -/
import Derived.Test.YteblhgcbgkokeaaRows
import Derived.Test.YteblhgcbgkokeaaMul
import Derived.WalkKit
import Derived.ProofKit
import Derived.OpenShut
namespace Go.Proofs.Yteblhgcbgkokeaa.satSides
open Go.ChangeShapes Go.WideShapes Go.ChangeAt Go.RowKit
set_option linter.unusedVariables false      -- a walk need not use every 'w<i>' (that an integer argument fits its kind)

theorem own : ownKnob Try.prog.godebug = none := by kernel_rfl

set_option maxHeartbeats 1000000 in
theorem walk (a0 : Int) (a1 : Int) (a2 : Int) (w0 : (Lit.int .i64 a0).wf = true) (w1 : (Lit.int .i64 a1).wf = true) (w2 : (Lit.int .i64 a2).wf = true) (w : World) :
    Calls Try.prog 10 #[.int .i64 a0, .int .i64 a1, .int .i64 a2] w fun e w' => e = .returned (.bool true) ∧ Grown w w' := by
  obtain ⟨b0l, b0u⟩ := bounds_i64 w0
  obtain ⟨b1l, b1u⟩ := bounds_i64 w1
  obtain ⟨b2l, b2u⟩ := bounds_i64 w2
  clear w0
  clear w1
  clear w2
  have HA := Lib.hid alive_any
  obtain ⟨lo, el⟩ : ∃ lo, min a1 a2 = lo := ⟨_, rfl⟩
  obtain ⟨hi, eh⟩ : ∃ hi, max a1 a2 = hi := ⟨_, rfl⟩
  obtain ⟨k, ek⟩ : ∃ k, kept a0 lo hi = k := ⟨_, rfl⟩
  have hlh : lo ≤ hi := by omega
  have hk : (a0 < lo ∧ k = lo) ∨ (hi < a0 ∧ k = hi) ∨ (lo ≤ a0 ∧ a0 ≤ hi ∧ k = a0) := by
    rw [← ek]; unfold kept
    repeat (first | omega | split)
  have hk2 : kept k lo hi = k := by
    unfold kept
    repeat (first | omega | split)
  have hk3 : lo ≤ k ∧ k ≤ hi := by omega
  obtain ⟨hk4, hk5⟩ := hk3
  have hj : (a0 < lo ∧ (k == a0) = false) ∨ (hi < a0 ∧ (k == a0) = false) ∨ (lo ≤ a0 ∧ a0 ≤ hi ∧ (k == a0) = true) := by
    simp only [beq_eq_false_iff_ne, ne_eq, beq_iff_eq]; omega
  have H1 := fun w => clamp_any a0 lo hi w
  have H2 := fun w => clamp_any k lo hi w
  have H3 := fun w => sub_any a0 a1 w b0l b0u b1l b1u
  have H4 := fun w => neg_any a1 w b1l b1u
  simp only [ek] at H1
  simp only [hk2] at H2
  have K1 := Lib.hid H1
  have K2 := Lib.hid H2
  clear H1 H2 hk2 ek hk
  obtain ⟨x, ex⟩ : ∃ x, stp (a0 - a1) = x := ⟨_, rfl⟩
  obtain ⟨n, en⟩ : ∃ n, stp (-a1) = n := ⟨_, rfl⟩
  have hn := stp_bd (-a1)
  simp only [ex] at H3
  simp only [en] at H4
  rw [en] at hn
  have H5 := fun w => add_any a0 n w b0l b0u hn.1 hn.2
  have K3 := Lib.hid H3
  have K4 := Lib.hid H4
  clear H3 H4
  by_cases c : a1 = -9223372036854775808
  · have cb : (a1 == -9223372036854775808) = true := by simp only [beq_iff_eq]; exact c
    clear c H5 en ex hn
    rcases hj with ⟨c1, c2⟩ | ⟨c1, c2⟩ | ⟨c1, c2, c3⟩
    all_goals
      go_enter Try.func10, Try.ntmps10
      go_wp2_with fail
      refine (K1.out _).mono ?_
      rintro e w1 ⟨rfl, rfl⟩
      go_wp2_with fail
      refine (K2.out _).mono ?_
      rintro e w1 ⟨rfl, rfl⟩
      go_wp2_with fail
      refine (HA.out _).mono ?_
      rintro e w3 ⟨rfl, hg3⟩
      go_wp2
      go_ret
      exact ⟨rfl, hg3⟩
  · have cb : (a1 == -9223372036854775808) = false := by simp only [beq_eq_false_iff_ne]; exact c
    have hnn : n = -a1 := by rw [← en]; exact stp_in (by omega) (by omega)
    simp only [show a0 + n = a0 - a1 by omega, ex] at H5
    have K5 := Lib.hid H5
    obtain ⟨hn1, hn2⟩ := hn
    clear c H5 en ex hnn
    rcases hj with ⟨c1, c2⟩ | ⟨c1, c2⟩ | ⟨c1, c2, c3⟩
    all_goals
      go_enter Try.func10, Try.ntmps10
      go_wp2_with fail
      refine (K1.out _).mono ?_
      rintro e w1 ⟨rfl, rfl⟩
      go_wp2_with fail
      refine (K2.out _).mono ?_
      rintro e w1 ⟨rfl, rfl⟩
      go_wp2_with fail
      refine (HA.out _).mono ?_
      rintro e w3 ⟨rfl, hg3⟩
      go_wp2_with fail
      refine (K3.out _).mono ?_
      rintro e w1 ⟨rfl, rfl⟩
      go_wp2_with fail
      refine (K4.out _).mono ?_
      rintro e w1 ⟨rfl, rfl⟩
      go_wp2_with fail
      refine (K5.out _).mono ?_
      rintro e w1 ⟨rfl, rfl⟩
      go_wp2
      go_ret
      exact ⟨rfl, hg3⟩

set_option maxRecDepth 100000 in
theorem lifted (os : Os) (started : os.Started) (H : Type) (enc : TypeId × Value → H) :
    ReturnsInHanded {} Try.checked os 10 .any (Rows.satSidesSpec.pre6 enc Try.prog Try.f10 Rows.satSidesRow.domain false) (Rows.satSidesSpec.post enc Try.prog Try.f10 false true false false) := by
  refine returnsInHanded_of_change (C := Try.checked) own started (by kernel_rfl) Try.func10
    (ChangeSpec.witness6 (enc := enc) (C := Try.checked) false ⟨#[], #[.int .i64 0, .int .i64 0, .int .i64 0], []⟩ 8 (by kernel_rfl) (by kernel_rfl) (by kernel_rfl) (by kernel_rfl)) ?_
  intro W base args ds gs before hval0 hW hcnd _
  have hval : ∀ (j : Nat) t v, Try.f10.params[j]? = some t → args[j]? = some v → Value.okWide Try.prog W .any base t v := hval0
  have hW' := hW
  obtain ⟨p, q, hA0, hV, rfl, hfz, hnd⟩ := hW
  have hA : DataW.TrodAll enc Try.prog W 0 (fun _ => true) true Try.f10.params.toList args.toList ds p := hA0
  rw [Try.params10] at hA hval
  obtain ⟨v0, vs0, d0, ds0, p0, q0, hargs, rfl, rfl, h0, r0⟩ := trodAll_cons hA
  obtain ⟨v1, vs1, d1, ds1, p1, q1, rfl, rfl, rfl, h1, r1⟩ := trodAll_cons r0
  obtain ⟨v2, vs2, d2, ds2, p2, q2, rfl, rfl, rfl, h2, r2⟩ := trodAll_cons r1
  obtain ⟨rfl, rfl, rfl⟩ := trodAll_nil r2
  obtain rfl : args = #[v0, v1, v2] := by cases args; simp_all
  obtain ⟨rfl, rfl⟩ := trodVars_none hV
  obtain ⟨a0, rfl, rfl, rfl, w0⟩ := open_int Try.underlying2 (hval 0 2 v0 rfl rfl) h0
  obtain ⟨a1, rfl, rfl, rfl, w1⟩ := open_int Try.underlying2 (hval 1 2 v1 rfl rfl) h1
  obtain ⟨a2, rfl, rfl, rfl, w2⟩ := open_int Try.underlying2 (hval 2 2 v2 rfl rfl) h2
  clear hA0 hval0
  simp only [List.append_nil] at hW'
  refine (walk a0 a1 a2 w0 w1 w2 W).mono fun e W' ⟨he, hg⟩ => ?_
  subst he
  exact ⟨_, rfl, post_of_same (pa := []) (pv := []) hW' (fun _ _ _ => (trodAll_cons_mk (shut_bool Try.underlying4 _) trodAll_mk0)) (fun sp _ => (trodAll_cons_mk (shut_int Try.underlying2 w0) (trodAll_cons_mk (shut_int Try.underlying2 w1) (trodAll_cons_mk (shut_int Try.underlying2 w2) trodAll_mk0)))) (fun _ _ => rfl) rfl
    (hg.frame _) hg.2.1 (ok_one (by kernel_rfl) rfl (okWide_bool_mk Try.underlying4 _))⟩

theorem over : Rows.satSidesRow.holds Try.pinned (OpenSpec.ofChange Rows.satSidesSpec) :=
  OpenClaim.holds_of_wide 10 Try.f10 rfl rfl rfl rfl rfl rfl rfl ⟨rfl, rfl, rfl, rfl, rfl⟩ rfl rfl rfl rfl rfl (by kernel_rfl) Try.func10 (by kernel_rfl)
    (of_decide_eq_true (by kernel_rfl)) (by unfold Func.isWrapper; first | (rw [if_pos (by decide +kernel)]; kernel_rfl) | (rw [if_neg (by decide +kernel)]; exact ⟨rfl, rfl⟩))
    (fun os started H enc _ => lifted os started H enc)

theorem proved : Rows.SatSidesSaid :=
  over
#print axioms proved
end Go.Proofs.Yteblhgcbgkokeaa.satSides
