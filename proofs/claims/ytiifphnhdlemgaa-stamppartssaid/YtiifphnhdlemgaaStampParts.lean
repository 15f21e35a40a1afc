/- For all seconds of 32 bits and all parts the statement StampParts returns true: of whole seconds a stamp is told exactly, and comes back exactly; a part of a second is below a second. No condition. -/
import Derived.Test.YtiifphnhdlemgaaRows
import Derived.Test.YtiifphnhdlemgaaDiff
import Derived.WalkKit
import Derived.ProofKit
import Derived.OpenShut
namespace Go.Proofs.Ytiifphnhdlemgaa.stampParts
open Go.ChangeShapes Go.WideShapes Go.ChangeAt Go.RowKit
set_option linter.unusedVariables false      -- a walk need not use every 'w<i>' (that an integer argument fits its kind)

theorem own : ownKnob Try.prog.godebug = none := by kernel_rfl

theorem sec_frm (q : Int) : frm (q * 1000000000) = IntKind.u64.wrap (IntKind.u64.wrap q * 4294967296) := by
  have e : q * 1000000000 * 4294967296 / 1000000000 = q * 4294967296 := by
    rw [show q * 1000000000 * 4294967296 = q * 4294967296 * 1000000000 by omega, Int.mul_ediv_cancel _ (by decide)]
  simp only [IntKind.wrap_u64]; unfold frm; rw [e]; omega
theorem sec_way (q : Int) (h1 : -2147483648 ≤ q) (h2 : q ≤ 2147483647) : nsf (way (frm (q * 1000000000)) 0) = q * 1000000000 := by
  have e : way (frm (q * 1000000000)) 0 = q * 4294967296 := by
    rw [sec_frm]; simp only [IntKind.wrap_u64]; unfold way; omega
  rw [e]; unfold nsf
  rw [show q * 4294967296 * 1000000000 = q * 1000000000 * 4294967296 by omega, Int.mul_ediv_cancel _ (by decide)]
set_option maxHeartbeats 1000000 in
theorem walk (a0 : Int) (a1 : Int) (w0 : (Lit.int .i32 a0).wf = true) (w1 : (Lit.int .u32 a1).wf = true) (w : World) :
    Calls Try.prog 8 #[.int .i32 a0, .int .u32 a1] w fun e w' => e = .returned (.bool true) ∧ Grown w w' := by
  obtain ⟨b0l, b0u⟩ := bounds_i32 w0
  obtain ⟨b1l, b1u⟩ := bounds_u32 w1
  clear w0
  clear w1
  have HA := Lib.hid alive_any
  have H1 := fun w => from_any (a0 * 1000000000) w (by omega) (by omega)
  have H2 := fun w => diff_any (frm (a0 * 1000000000)) 0 w
  simp only [sec_way a0 b0l b0u] at H2
  simp only [sec_frm] at H1 H2
  obtain ⟨s, es⟩ : ∃ s, IntKind.u64.wrap (IntKind.u64.wrap a0 * 4294967296) = s := ⟨_, rfl⟩
  simp only [es] at H1 H2
  have K1 := Lib.hid H1
  have K2 := Lib.hid H2
  clear H1 H2
  have H3 := fun w => ns_any a1 w b1l (by omega)
  obtain ⟨n, en⟩ : ∃ n, nsf a1 = n := ⟨_, rfl⟩
  have n1 : 0 ≤ n := by rw [← en]; unfold nsf; omega
  have n2 : n < 1000000000 := by rw [← en]; unfold nsf; omega
  simp only [en] at H3
  have K3 := Lib.hid H3
  clear H3
  obtain ⟨q, eq⟩ : ∃ q, a0 % 4294967296 = q := ⟨_, rfl⟩
  have q1 : 0 ≤ q := by omega
  have q2 : q ≤ 4294967295 := by omega
  have H4 := fun w => ns_any (q * 4294967296 + a1) w (by omega) (by omega)
  simp only [← nsf_halves, show a1 * 1000000000 / 4294967296 = n from en] at H4
  have K4 := Lib.hid H4
  clear H4 en
  go_enter Try.func8, Try.ntmps8
  go_wp2_with fail
  refine (K1.out _).mono ?_
  rintro e w1 ⟨rfl, hg1⟩
  go_wp2_with fail
  refine (K2.out _).mono ?_
  rintro e w2 ⟨rfl, hg2⟩
  go_wp2_with fail
  refine (K3.out _).mono ?_
  rintro e w3 ⟨rfl, hg3⟩
  go_wp2_with fail
  refine (HA.out _).mono ?_
  rintro e w4 ⟨rfl, hg4⟩
  go_wp2_with fail
  refine (K4.out _).mono ?_
  rintro e w5 ⟨rfl, hg5⟩
  go_wp2
  go_ret
  exact ⟨rfl, grown_trans hg1 (grown_trans hg2 (grown_trans hg3 (grown_trans hg4 hg5)))⟩

set_option maxRecDepth 100000 in
theorem lifted (os : Os) (started : os.Started) (H : Type) (enc : TypeId × Value → H) :
    ReturnsInHanded {} Try.checked os 8 .any (Rows.stampPartsSpec.pre6 enc Try.prog Try.f8 Rows.stampPartsRow.domain false) (Rows.stampPartsSpec.post enc Try.prog Try.f8 false true false false) := by
  refine returnsInHanded_of_change (C := Try.checked) own started (by kernel_rfl) Try.func8
    (ChangeSpec.witness6 (enc := enc) (C := Try.checked) false ⟨#[], #[.int .i32 0, .int .u32 0], []⟩ 8 (by kernel_rfl) (by kernel_rfl) (by kernel_rfl) (by kernel_rfl)) ?_
  intro W base args ds gs before hval0 hW hcnd _
  have hval : ∀ (j : Nat) t v, Try.f8.params[j]? = some t → args[j]? = some v → Value.okWide Try.prog W .any base t v := hval0
  have hW' := hW
  obtain ⟨p, q, hA0, hV, rfl, hfz, hnd⟩ := hW
  have hA : DataW.TrodAll enc Try.prog W 0 (fun _ => true) true Try.f8.params.toList args.toList ds p := hA0
  rw [Try.params8] at hA hval
  obtain ⟨v0, vs0, d0, ds0, p0, q0, hargs, rfl, rfl, h0, r0⟩ := trodAll_cons hA
  obtain ⟨v1, vs1, d1, ds1, p1, q1, rfl, rfl, rfl, h1, r1⟩ := trodAll_cons r0
  obtain ⟨rfl, rfl, rfl⟩ := trodAll_nil r1
  obtain rfl : args = #[v0, v1] := by cases args; simp_all
  obtain ⟨rfl, rfl⟩ := trodVars_none hV
  obtain ⟨a0, rfl, rfl, rfl, w0⟩ := open_int Try.underlying21 (hval 0 21 v0 rfl rfl) h0
  obtain ⟨a1, rfl, rfl, rfl, w1⟩ := open_int Try.underlying31 (hval 1 31 v1 rfl rfl) h1
  clear hA0 hval0
  simp only [List.append_nil] at hW'
  refine (walk a0 a1 w0 w1 W).mono fun e W' ⟨he, hg⟩ => ?_
  subst he
  exact ⟨_, rfl, post_of_same (pa := []) (pv := []) hW' (fun _ _ _ => (trodAll_cons_mk (shut_bool Try.underlying4 _) trodAll_mk0)) (fun sp _ => (trodAll_cons_mk (shut_int Try.underlying21 w0) (trodAll_cons_mk (shut_int Try.underlying31 w1) trodAll_mk0))) (fun _ _ => rfl) rfl
    (hg.frame _) hg.2.1 (ok_one (by kernel_rfl) rfl (okWide_bool_mk Try.underlying4 _))⟩

theorem over : Rows.stampPartsRow.holds Try.pinned (OpenSpec.ofChange Rows.stampPartsSpec) :=
  OpenClaim.holds_of_wide 8 Try.f8 rfl rfl rfl rfl rfl rfl rfl ⟨rfl, rfl, rfl, rfl, rfl⟩ rfl rfl rfl rfl rfl (by kernel_rfl) Try.func8 (by kernel_rfl)
    (of_decide_eq_true (by kernel_rfl)) (by unfold Func.isWrapper; first | (rw [if_pos (by decide +kernel)]; kernel_rfl) | (rw [if_neg (by decide +kernel)]; exact ⟨rfl, rfl⟩))
    (fun os started H enc _ => lifted os started H enc)

theorem proved : Rows.StampPartsSaid :=
  over
#print axioms proved
end Go.Proofs.Ytiifphnhdlemgaa.stampParts
