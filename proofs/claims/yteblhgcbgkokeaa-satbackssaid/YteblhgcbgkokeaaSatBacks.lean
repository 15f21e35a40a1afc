/- For all two numbers of 64 bits the statement SatBacks returns true: what was added and taken away again is there, where nothing stops. No condition. -/
import Derived.Test.YteblhgcbgkokeaaRows
import Derived.Test.YteblhgcbgkokeaaMul
import Derived.WalkKit
import Derived.ProofKit
import Derived.OpenShut
namespace Go.Proofs.Yteblhgcbgkokeaa.satBacks
open Go.ChangeShapes Go.WideShapes Go.ChangeAt Go.RowKit
set_option linter.unusedVariables false      -- a walk need not use every 'w<i>' (that an integer argument fits its kind)

theorem own : ownKnob Try.prog.godebug = none := by kernel_rfl

set_option maxHeartbeats 1000000 in
theorem walk (a0 : Int) (a1 : Int) (w0 : (Lit.int .i64 a0).wf = true) (w1 : (Lit.int .i64 a1).wf = true) (w : World) :
    Calls Try.prog 8 #[.int .i64 a0, .int .i64 a1] w fun e w' => e = .returned (.bool true) ∧ Grown w w' := by
  obtain ⟨b0l, b0u⟩ := bounds_i64 w0
  obtain ⟨b1l, b1u⟩ := bounds_i64 w1
  clear w0
  clear w1
  have HA := Lib.hid alive_any
  obtain ⟨s, es⟩ : ∃ s, stp (a0 + a1) = s := ⟨_, rfl⟩
  obtain ⟨x, ex⟩ : ∃ x, stp (if a0 < 0 then -a0 else a0) = x := ⟨_, rfl⟩
  have hx : 0 ≤ x := by
    rw [← ex]; unfold stp
    repeat (first | omega | split)
  have hs := stp_bd (a0 + a1)
  rw [es] at hs
  obtain ⟨hs1, hs2⟩ := hs
  have hin : s ≠ 9223372036854775807 → s ≠ -9223372036854775808 → s = a0 + a1 := by
    intro c1 c2
    rw [← es] at c1 c2 ⊢
    unfold stp at *
    repeat (first | omega | split at *)
  have hup : 0 ≤ a1 → a0 ≤ s := by
    intro c; rw [← es]; unfold stp
    repeat (first | omega | split)
  have hdn : a1 ≤ 0 → s ≤ a0 := by
    intro c; rw [← es]; unfold stp
    repeat (first | omega | split)
  have H1 := fun w => add_any a0 a1 w b0l b0u b1l b1u
  have H2 := fun w => add_any a1 a0 w b1l b1u b0l b0u
  have H3 := fun w => abs_any a0 w b0l b0u
  have H4 := fun w => sub_any a0 a0 w b0l b0u b0l b0u
  simp only [es] at H1
  simp only [Int.add_comm a1 a0, es] at H2
  simp only [ex] at H3
  simp only [Int.sub_self, show stp 0 = 0 from by decide] at H4
  have K1 := Lib.hid H1
  have K2 := Lib.hid H2
  have K3 := Lib.hid H3
  have K4 := Lib.hid H4
  clear H1 H2 H3 H4 ex
  by_cases c : s ≠ 9223372036854775807 ∧ s ≠ -9223372036854775808
  · have e := hin c.1 c.2
    have H5 := fun w => sub_any s a1 w hs1 hs2 b1l b1u
    have H6 := fun w => sub_any s a0 w hs1 hs2 b0l b0u
    simp only [show s - a1 = a0 by omega, stp_in b0l b0u] at H5
    simp only [show s - a0 = a1 by omega, stp_in b1l b1u] at H6
    have K5 := Lib.hid H5
    have K6 := Lib.hid H6
    have n1 : (s != 9223372036854775807) = true := by simp only [bne_iff_ne]; exact c.1
    have n2 : (s != -9223372036854775808) = true := by simp only [bne_iff_ne]; exact c.2
    clear H5 H6 e c hin es
    rcases (show (a1 < 0 ∧ s ≤ a0) ∨ ((0 ≤ a1 ∧ a1 ≤ 0) ∧ a0 ≤ s ∧ s ≤ a0) ∨ (0 < a1 ∧ a0 ≤ s) by omega) with ⟨c1, c2⟩ | ⟨⟨c1, c4⟩, c2, c3⟩ | ⟨c1, c2⟩
    all_goals
      clear hup hdn
      go_enter Try.func8, Try.ntmps8
      go_wp2_with fail
      refine (K1.out _).mono ?_
      rintro e w1 ⟨rfl, rfl⟩
      go_wp2_with fail
      refine (K5.out _).mono ?_
      rintro e w1 ⟨rfl, rfl⟩
      go_wp2_with fail
      refine (K6.out _).mono ?_
      rintro e w1 ⟨rfl, rfl⟩
      go_wp2_with fail
      refine (HA.out _).mono ?_
      rintro e w3 ⟨rfl, hg3⟩
      go_wp2_with fail
      refine (K2.out _).mono ?_
      rintro e w1 ⟨rfl, rfl⟩
      go_wp2_with fail
      refine (K3.out _).mono ?_
      rintro e w1 ⟨rfl, rfl⟩
      go_wp2_with fail
      refine (K4.out _).mono ?_
      rintro e w1 ⟨rfl, rfl⟩
      go_wp2
      go_ret
      exact ⟨rfl, hg3⟩
  · have n3 : (s != 9223372036854775807) = false ∨ (s != 9223372036854775807) = true ∧ (s != -9223372036854775808) = false := by
      simp only [bne_eq_false_iff_eq, bne_iff_ne]; omega
    clear c hin es
    rcases (show (a1 < 0 ∧ s ≤ a0) ∨ ((0 ≤ a1 ∧ a1 ≤ 0) ∧ a0 ≤ s ∧ s ≤ a0) ∨ (0 < a1 ∧ a0 ≤ s) by omega) with ⟨c1, c2⟩ | ⟨⟨c1, c4⟩, c2, c3⟩ | ⟨c1, c2⟩
    all_goals
      rcases n3 with n3 | ⟨n3, n4⟩
      all_goals
        clear hup hdn
        go_enter Try.func8, Try.ntmps8
        go_wp2_with fail
        refine (K1.out _).mono ?_
        rintro e w1 ⟨rfl, rfl⟩
        go_wp2_with fail
        refine (HA.out _).mono ?_
        rintro e w3 ⟨rfl, hg3⟩
        go_wp2_with fail
        refine (K2.out _).mono ?_
        rintro e w1 ⟨rfl, rfl⟩
        go_wp2_with fail
        refine (K3.out _).mono ?_
        rintro e w1 ⟨rfl, rfl⟩
        go_wp2_with fail
        refine (K4.out _).mono ?_
        rintro e w1 ⟨rfl, rfl⟩
        go_wp2
        go_ret
        exact ⟨rfl, hg3⟩

set_option maxRecDepth 100000 in
theorem lifted (os : Os) (started : os.Started) (H : Type) (enc : TypeId × Value → H) :
    ReturnsInHanded {} Try.checked os 8 .any (Rows.satBacksSpec.pre6 enc Try.prog Try.f8 Rows.satBacksRow.domain false) (Rows.satBacksSpec.post enc Try.prog Try.f8 false true false false) := by
  refine returnsInHanded_of_change (C := Try.checked) own started (by kernel_rfl) Try.func8
    (ChangeSpec.witness6 (enc := enc) (C := Try.checked) false ⟨#[], #[.int .i64 0, .int .i64 0], []⟩ 8 (by kernel_rfl) (by kernel_rfl) (by kernel_rfl) (by kernel_rfl)) ?_
  intro W base args ds gs before hval0 hW hcnd _
  have hval : ∀ (j : Nat) t v, Try.f8.params[j]? = some t → args[j]? = some v → Value.okWide Try.prog W .any base t v := hval0
  have hW' := hW
  obtain ⟨p, q, hA0, hV, rfl, hfz, hnd⟩ := hW
  have hA : DataW.TrodAll enc Try.prog W 0 (fun _ => true) true Try.f8.params.toList args.toList ds p := hA0
  rw [Try.params8] at hA hval
  obtain ⟨v0, vs0, d0, ds0, p0, q0, hargs, rfl, rfl, h0, r0⟩ := trodAll_cons hA
  obtain ⟨v1, vs1, d1, ds1, p1, q1, rfl, rfl, rfl, h1, r1⟩ := trodAll_cons r0
  obtain ⟨rfl, rfl, rfl⟩ := trodAll_nil r1
  obtain rfl : args = #[v0, v1] := by cases args; simp_all
  obtain ⟨rfl, rfl⟩ := trodVars_none hV
  obtain ⟨a0, rfl, rfl, rfl, w0⟩ := open_int Try.underlying2 (hval 0 2 v0 rfl rfl) h0
  obtain ⟨a1, rfl, rfl, rfl, w1⟩ := open_int Try.underlying2 (hval 1 2 v1 rfl rfl) h1
  clear hA0 hval0
  simp only [List.append_nil] at hW'
  refine (walk a0 a1 w0 w1 W).mono fun e W' ⟨he, hg⟩ => ?_
  subst he
  exact ⟨_, rfl, post_of_same (pa := []) (pv := []) hW' (fun _ _ _ => (trodAll_cons_mk (shut_bool Try.underlying4 _) trodAll_mk0)) (fun sp _ => (trodAll_cons_mk (shut_int Try.underlying2 w0) (trodAll_cons_mk (shut_int Try.underlying2 w1) trodAll_mk0))) (fun _ _ => rfl) rfl
    (hg.frame _) hg.2.1 (ok_one (by kernel_rfl) rfl (okWide_bool_mk Try.underlying4 _))⟩

theorem over : Rows.satBacksRow.holds Try.pinned (OpenSpec.ofChange Rows.satBacksSpec) :=
  OpenClaim.holds_of_wide 8 Try.f8 rfl rfl rfl rfl rfl rfl rfl ⟨rfl, rfl, rfl, rfl, rfl⟩ rfl rfl rfl rfl rfl (by kernel_rfl) Try.func8 (by kernel_rfl)
    (of_decide_eq_true (by kernel_rfl)) (by unfold Func.isWrapper; first | (rw [if_pos (by decide +kernel)]; kernel_rfl) | (rw [if_neg (by decide +kernel)]; exact ⟨rfl, rfl⟩))
    (fun os started H enc _ => lifted os started H enc)

theorem proved : Rows.SatBacksSaid :=
  over
#print axioms proved
end Go.Proofs.Yteblhgcbgkokeaa.satBacks
