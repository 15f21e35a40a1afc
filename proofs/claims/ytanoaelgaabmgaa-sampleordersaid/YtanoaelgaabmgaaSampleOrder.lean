/- SampleOrder: of two samples one is better, if they differ in the delay or in when they came, never both; better goes on. No condition on what comes in. -/
import Derived.Test.YtanoaelgaabmgaaRows
import Derived.Test.YtanoaelgaabmgaaWorder
import Derived.Test.YtanoaelgaabmgaaOpen
import Derived.WalkKit
import Derived.ProofKit
import Derived.OpenShut
import Derived.ShutString
import Derived.ChangeOld
import Derived.Below
namespace Go.Proofs.Ytanoaelgaabmgaa.sampleOrder
open Go.ChangeShapes Go.WideShapes Go.ChangeAt Go.RowKit
set_option linter.unusedVariables false

theorem own : ownKnob Try.prog.godebug = none := by kernel_rfl
theorem laidOut : laidOutB Try.prog = true := by kernel_rfl

set_option maxRecDepth 100000 in
set_option maxHeartbeats 8000000 in
theorem walk (p0 : Sm) (p1 : Sm) (p2 : Sm) (w : World) (hp0 : p0.In) (hp1 : p1.In) (hp2 : p2.In) :
    Calls Try.prog 6 #[.agg #[.int .i64 p0.o, .int .i64 p0.d, .int .i64 p0.t, .int .i64 p0.s], .agg #[.int .i64 p1.o, .int .i64 p1.d, .int .i64 p1.t, .int .i64 p1.s], .agg #[.int .i64 p2.o, .int .i64 p2.d, .int .i64 p2.t, .int .i64 p2.s]] w fun e w' => e = .returned (.bool true) ∧ Below w.heap.size w w' := by
  exact walk_order p0.o p0.d p0.t p0.s p1.o p1.d p1.t p1.s p2.o p2.d p2.t p2.s w

set_option maxRecDepth 100000 in
theorem lifted (os : Os) (started : os.Started) (H : Type) (enc : TypeId × Value → H) :
    ReturnsInHanded {} Try.checked os 6 .any (Rows.sampleOrderSpec.pre6 enc Try.prog Try.f6 Rows.sampleOrderRow.domain false) (Rows.sampleOrderSpec.post enc Try.prog Try.f6 false true false false) := by
  refine returnsInHanded_of_change (C := Try.checked) own started (by kernel_rfl) Try.func6
    (ChangeSpec.witness6 (enc := enc) (C := Try.checked) false ⟨#[], #[.agg #[.int .i64 0, .int .i64 0, .int .i64 0, .int .i64 0], .agg #[.int .i64 0, .int .i64 0, .int .i64 0, .int .i64 0], .agg #[.int .i64 0, .int .i64 0, .int .i64 0, .int .i64 0]], []⟩ 8 (by kernel_rfl) (by kernel_rfl) (by kernel_rfl) (by kernel_rfl)) ?_
  intro W base args ds gs before hval0 hW hcnd _
  have hval : ∀ (j : Nat) t v, Try.f6.params[j]? = some t → args[j]? = some v → Value.okWide Try.prog W .any base t v := hval0
  have hW' := hW
  obtain ⟨p, q, hA0, hV, rfl, hfz, hnd⟩ := hW
  have hA : DataW.TrodAll enc Try.prog W 0 (fun _ => true) true Try.f6.params.toList args.toList ds p := hA0
  rw [Try.params6] at hA hval
  obtain ⟨v0, vs0, d0, ds0, p0, q0, hargs, rfl, rfl, h0, r0⟩ := trodAll_cons hA
  obtain ⟨v1, vs1, d1, ds1, p1, q1, rfl, rfl, rfl, h1, r1⟩ := trodAll_cons r0
  obtain ⟨v2, vs2, d2, ds2, p2, q2, rfl, rfl, rfl, h2, r2⟩ := trodAll_cons r1
  obtain ⟨rfl, rfl, rfl⟩ := trodAll_nil r2
  obtain rfl : args = #[v0, v1, v2] := by cases args; simp_all
  obtain ⟨rfl, rfl⟩ := trodVars_none hV
  have k0 := h0
  have lt0 : ∀ x ∈ p0, x.block < W.heap.size := by obtain ⟨m, hm⟩ := k0; exact DataW.trod_lt m _ _ _ hm
  obtain ⟨x0_0, x0_1, x0_2, x0_3, rfl, w0_0, w0_1, w0_2, w0_3⟩ := open_sm (hval 0 30 v0 rfl rfl) h0
  have hp0 : (Sm.mk x0_0 x0_1 x0_2 x0_3).In := ⟨(bounds_i64 w0_0).1, (bounds_i64 w0_0).2, (bounds_i64 w0_1).1, (bounds_i64 w0_1).2, (bounds_i64 w0_2).1, (bounds_i64 w0_2).2, (bounds_i64 w0_3).1, (bounds_i64 w0_3).2⟩
  have k1 := h1
  have lt1 : ∀ x ∈ p1, x.block < W.heap.size := by obtain ⟨m, hm⟩ := k1; exact DataW.trod_lt m _ _ _ hm
  obtain ⟨x1_0, x1_1, x1_2, x1_3, rfl, w1_0, w1_1, w1_2, w1_3⟩ := open_sm (hval 1 30 v1 rfl rfl) h1
  have hp1 : (Sm.mk x1_0 x1_1 x1_2 x1_3).In := ⟨(bounds_i64 w1_0).1, (bounds_i64 w1_0).2, (bounds_i64 w1_1).1, (bounds_i64 w1_1).2, (bounds_i64 w1_2).1, (bounds_i64 w1_2).2, (bounds_i64 w1_3).1, (bounds_i64 w1_3).2⟩
  have k2 := h2
  have lt2 : ∀ x ∈ p2, x.block < W.heap.size := by obtain ⟨m, hm⟩ := k2; exact DataW.trod_lt m _ _ _ hm
  obtain ⟨x2_0, x2_1, x2_2, x2_3, rfl, w2_0, w2_1, w2_2, w2_3⟩ := open_sm (hval 2 30 v2 rfl rfl) h2
  have hp2 : (Sm.mk x2_0 x2_1 x2_2 x2_3).In := ⟨(bounds_i64 w2_0).1, (bounds_i64 w2_0).2, (bounds_i64 w2_1).1, (bounds_i64 w2_1).2, (bounds_i64 w2_2).1, (bounds_i64 w2_2).2, (bounds_i64 w2_3).1, (bounds_i64 w2_3).2⟩
  clear hA0 hval0
  refine (walk ⟨x0_0, x0_1, x0_2, x0_3⟩ ⟨x1_0, x1_1, x1_2, x1_3⟩ ⟨x2_0, x2_1, x2_2, x2_3⟩ W hp0 hp1 hp2).mono fun e W' ⟨he, bel⟩ => ?_
  subst he
  exact ⟨_, rfl, _, _, _, [], _, [], hW', trodAll_mk1 (shut_bool Try.underlying4 _), (trodAll_cons_mk (Below.trod laidOut (by kernel_rfl) (of_decide_eq_true (by kernel_rfl)) k0 bel lt0) (trodAll_cons_mk (Below.trod laidOut (by kernel_rfl) (of_decide_eq_true (by kernel_rfl)) k1 bel lt1) (trodAll_cons_mk (Below.trod laidOut (by kernel_rfl) (of_decide_eq_true (by kernel_rfl)) k2 bel lt2) trodAll_mk0))), rfl, bel.frame _, fun h => by cases h⟩

theorem over : Rows.sampleOrderRow.holds Try.pinned (OpenSpec.ofChange Rows.sampleOrderSpec) :=
  OpenClaim.holds_of_wide 6 Try.f6 rfl rfl rfl rfl rfl rfl rfl ⟨rfl, rfl, rfl, rfl, rfl⟩ rfl rfl rfl rfl rfl (by kernel_rfl) Try.func6 (by kernel_rfl)
    (of_decide_eq_true (by kernel_rfl)) (by unfold Func.isWrapper; first | (rw [if_pos (by decide +kernel)]; kernel_rfl) | (rw [if_neg (by decide +kernel)]; exact ⟨rfl, rfl⟩))
    (fun os started H enc _ => lifted os started H enc)

theorem proved : Rows.SampleOrderSaid :=
  over
#print axioms proved
end Go.Proofs.Ytanoaelgaabmgaa.sampleOrder
