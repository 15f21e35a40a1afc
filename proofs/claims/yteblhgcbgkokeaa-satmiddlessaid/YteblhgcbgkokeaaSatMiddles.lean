/- For all two numbers of 64 bits the statement SatMiddles returns true: a middle is between both. No condition. -/
import Derived.Test.YteblhgcbgkokeaaRows
import Derived.Test.YteblhgcbgkokeaaMul
import Derived.WalkKit
import Derived.ProofKit
import Derived.OpenShut
namespace Go.Proofs.Yteblhgcbgkokeaa.satMiddles
open Go.ChangeShapes Go.WideShapes Go.ChangeAt Go.RowKit
set_option linter.unusedVariables false      -- a walk need not use every 'w<i>' (that an integer argument fits its kind)

theorem own : ownKnob Try.prog.godebug = none := by kernel_rfl

theorem sides (a b m lo hi : Int) (h1 : -9223372036854775808 ≤ a) (h2 : a ≤ 9223372036854775807) (h3 : -9223372036854775808 ≤ b) (h4 : b ≤ 9223372036854775807)
    (em : (a + b) / 2 = m) (el : min a b = lo) (eh : max a b = hi) :
    ∃ L R : Int, IntKind.u64.wrap (IntKind.u64.wrap m - IntKind.u64.wrap lo) = L ∧ IntKind.u64.wrap (IntKind.u64.wrap hi - IntKind.u64.wrap m) = R ∧ 0 ≤ L ∧ L < 9223372036854775808 ∧ (R = L ∨ R = L + 1) := by
  refine ⟨m - lo, hi - m, ?_, ?_, by omega, by omega, by omega⟩
  · simp only [IntKind.wrap_u64]; omega
  · simp only [IntKind.wrap_u64]; omega
theorem walk (a0 : Int) (a1 : Int) (w0 : (Lit.int .i64 a0).wf = true) (w1 : (Lit.int .i64 a1).wf = true) (w : World) :
    Calls Try.prog 6 #[.int .i64 a0, .int .i64 a1] w fun e w' => e = .returned (.bool true) ∧ Grown w w' := by
  obtain ⟨b0l, b0u⟩ := bounds_i64 w0
  obtain ⟨b1l, b1u⟩ := bounds_i64 w1
  clear w0
  clear w1
  have HA := Lib.hid alive_any
  obtain ⟨m, em⟩ : ∃ m, (a0 + a1) / 2 = m := ⟨_, rfl⟩
  obtain ⟨lo, el⟩ : ∃ lo, min a0 a1 = lo := ⟨_, rfl⟩
  obtain ⟨hi, eh⟩ : ∃ hi, max a0 a1 = hi := ⟨_, rfl⟩
  obtain ⟨h, ehf⟩ : ∃ h, a0 / 2 = h := ⟨_, rfl⟩
  obtain ⟨L, R, eL, eR, hL0, hL1, hLR⟩ := sides a0 a1 m lo hi b0l b0u b1l b1u em el eh
  have H1 := fun w => mid_any a0 a1 w b0l b0u b1l b1u
  have H2 := fun w => mid_any a1 a0 w b1l b1u b0l b0u
  have H3 := fun w => half_any a0 w b0l b0u
  have H4 := fun w => mid_any a0 0 w b0l b0u (by omega) (by omega)
  have H5 := fun w => mid_any a0 a0 w b0l b0u b0l b0u
  simp only [em] at H1
  simp only [show (a1 + a0) / 2 = m by omega] at H2
  simp only [ehf] at H3
  simp only [show (a0 + 0) / 2 = h by omega] at H4
  simp only [show (a0 + a0) / 2 = a0 by omega] at H5
  have K1 := Lib.hid H1
  have K2 := Lib.hid H2
  have K3 := Lib.hid H3
  have K4 := Lib.hid H4
  have K5 := Lib.hid H5
  have q1 : lo ≤ m := by omega
  have q2 : m ≤ hi := by omega
  clear H1 H2 H3 H4 H5 em ehf
  go_enter Try.func6, Try.ntmps6
  go_wp2_with fail
  refine (K1.out _).mono ?_
  rintro e w1 ⟨rfl, rfl⟩
  go_wp2_with fail
  refine (K2.out _).mono ?_
  rintro e w1 ⟨rfl, rfl⟩
  go_wp2_with fail
  refine (K3.out _).mono ?_
  rintro e w1 ⟨rfl, rfl⟩
  go_wp2_with fail
  refine (K4.out _).mono ?_
  rintro e w1 ⟨rfl, rfl⟩
  go_wp2_with fail
  refine (K5.out _).mono ?_
  rintro e w1 ⟨rfl, rfl⟩
  go_wp2_with fail
  refine (HA.out _).mono ?_
  rintro e w3 ⟨rfl, hg3⟩
  clear eL eR el eh
  rcases hLR with rfl | rfl
  · go_wp2
    go_ret
    exact ⟨rfl, hg3⟩
  · have hne : (L + 1 == L) = false := by simp only [beq_eq_false_iff_ne, ne_eq]; omega
    go_wp2
    go_ret
    exact ⟨rfl, hg3⟩

set_option maxRecDepth 100000 in
theorem lifted (os : Os) (started : os.Started) (H : Type) (enc : TypeId × Value → H) :
    ReturnsInHanded {} Try.checked os 6 .any (Rows.satMiddlesSpec.pre6 enc Try.prog Try.f6 Rows.satMiddlesRow.domain false) (Rows.satMiddlesSpec.post enc Try.prog Try.f6 false true false false) := by
  refine returnsInHanded_of_change (C := Try.checked) own started (by kernel_rfl) Try.func6
    (ChangeSpec.witness6 (enc := enc) (C := Try.checked) false ⟨#[], #[.int .i64 0, .int .i64 0], []⟩ 8 (by kernel_rfl) (by kernel_rfl) (by kernel_rfl) (by kernel_rfl)) ?_
  intro W base args ds gs before hval0 hW hcnd _
  have hval : ∀ (j : Nat) t v, Try.f6.params[j]? = some t → args[j]? = some v → Value.okWide Try.prog W .any base t v := hval0
  have hW' := hW
  obtain ⟨p, q, hA0, hV, rfl, hfz, hnd⟩ := hW
  have hA : DataW.TrodAll enc Try.prog W 0 (fun _ => true) true Try.f6.params.toList args.toList ds p := hA0
  rw [Try.params6] at hA hval
  obtain ⟨v0, vs0, d0, ds0, p0, q0, hargs, rfl, rfl, h0, r0⟩ := trodAll_cons hA
  obtain ⟨v1, vs1, d1, ds1, p1, q1, rfl, rfl, rfl, h1, r1⟩ := trodAll_cons r0
  obtain ⟨rfl, rfl, rfl⟩ := trodAll_nil r1
  obtain rfl : args = #[v0, v1] := by cases args; simp_all
  obtain ⟨rfl, rfl⟩ := trodVars_none hV
  obtain ⟨a0, rfl, rfl, rfl, w0⟩ := open_int Try.underlying2 (hval 0 2 v0 rfl rfl) h0
  obtain ⟨a1, rfl, rfl, rfl, w1⟩ := open_int Try.underlying2 (hval 1 2 v1 rfl rfl) h1
  clear hA0 hval0
  simp only [List.append_nil] at hW'
  refine (walk a0 a1 w0 w1 W).mono fun e W' ⟨he, hg⟩ => ?_
  subst he
  exact ⟨_, rfl, post_of_same (pa := []) (pv := []) hW' (fun _ _ _ => (trodAll_cons_mk (shut_bool Try.underlying4 _) trodAll_mk0)) (fun sp _ => (trodAll_cons_mk (shut_int Try.underlying2 w0) (trodAll_cons_mk (shut_int Try.underlying2 w1) trodAll_mk0))) (fun _ _ => rfl) rfl
    (hg.frame _) hg.2.1 (ok_one (by kernel_rfl) rfl (okWide_bool_mk Try.underlying4 _))⟩

theorem over : Rows.satMiddlesRow.holds Try.pinned (OpenSpec.ofChange Rows.satMiddlesSpec) :=
  OpenClaim.holds_of_wide 6 Try.f6 rfl rfl rfl rfl rfl rfl rfl ⟨rfl, rfl, rfl, rfl, rfl⟩ rfl rfl rfl rfl rfl (by kernel_rfl) Try.func6 (by kernel_rfl)
    (of_decide_eq_true (by kernel_rfl)) (by unfold Func.isWrapper; first | (rw [if_pos (by decide +kernel)]; kernel_rfl) | (rw [if_neg (by decide +kernel)]; exact ⟨rfl, rfl⟩))
    (fun os started H enc _ => lifted os started H enc)

theorem proved : Rows.SatMiddlesSaid :=
  over
#print axioms proved
end Go.Proofs.Yteblhgcbgkokeaa.satMiddles
