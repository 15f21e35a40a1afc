/- SampleTrue: a clock that is off by so much, and runs right, is told that, up to half of how much longer one way took than the other one, and 4 nanoseconds; and how long both took, up to 4. No condition on what comes in. -/
import Derived.Test.YtanoaelgaabmgaaRows
import Derived.Test.YtanoaelgaabmgaaWtrue
import Derived.Test.YtanoaelgaabmgaaOpen
import Derived.Test.YtanoaelgaabmgaaArr
import Derived.WalkKit
import Derived.ProofKit
import Derived.OpenShut
import Derived.ShutString
import Derived.ChangeOld
import Derived.Below
namespace Go.Proofs.Ytanoaelgaabmgaa.sampleTrue
open Go.ChangeShapes Go.WideShapes Go.ChangeAt Go.RowKit
set_option linter.unusedVariables false

theorem own : ownKnob Try.prog.godebug = none := by kernel_rfl
theorem laidOut : laidOutB Try.prog = true := by kernel_rfl
theorem cells36_ : Try.prog.cellsOf 36 = 1 := by kernel_rfl
theorem cells37_ : Try.prog.cellsOf 37 = 3 := by kernel_rfl
theorem list3_ {α : Type} (l : List α) (h : l.length = 3) : ∃ x0 x1 x2, l = [x0, x1, x2] := by
  match l, h with
  | [x0, x1, x2], _ => exact ⟨x0, x1, x2, rfl⟩

set_option maxRecDepth 100000 in
set_option maxHeartbeats 8000000 in
theorem walk (a0 : Int) (a1 : Int) (a20 a21 a22 : Int) (w : World) (w0 : (Lit.int .i64 a0).wf = true) (w1 : (Lit.int .i64 a1).wf = true) (w20 : (Lit.int .u32 a20).wf = true) (w21 : (Lit.int .u32 a21).wf = true) (w22 : (Lit.int .u32 a22).wf = true) :
    Calls Try.prog 5 #[.int .i64 a0, .int .i64 a1, .agg #[.int .u32 a20, .int .u32 a21, .int .u32 a22]] w fun e w' => e = .returned (.bool true) ∧ Below w.heap.size w w' := by
  obtain ⟨b0l, b0u⟩ := bounds_i64 w0
  obtain ⟨b1l, b1u⟩ := bounds_i64 w1
  obtain ⟨b20l, b20u⟩ := bounds_u32 w20
  obtain ⟨b21l, b21u⟩ := bounds_u32 w21
  obtain ⟨b22l, b22u⟩ := bounds_u32 w22
  clear w0
  clear w1
  clear w20
  clear w21
  clear w22
  exact walk_true a0 a1 a20 a21 a22 w b20l b20u b21l b21u b22l b22u

set_option maxRecDepth 100000 in
theorem lifted (os : Os) (started : os.Started) (H : Type) (enc : TypeId × Value → H) :
    ReturnsInHanded {} Try.checked os 5 .any (Rows.sampleTrueSpec.pre6 enc Try.prog Try.f5 Rows.sampleTrueRow.domain false) (Rows.sampleTrueSpec.post enc Try.prog Try.f5 false true false false) := by
  refine returnsInHanded_of_change (C := Try.checked) own started (by kernel_rfl) Try.func5
    (ChangeSpec.witness6 (enc := enc) (C := Try.checked) false ⟨#[], #[.int .i64 0, .int .i64 0, .agg #[.int .u32 0, .int .u32 0, .int .u32 0]], []⟩ 8 (by kernel_rfl) (by kernel_rfl) (by kernel_rfl) (by kernel_rfl)) ?_
  intro W base args ds gs before hval0 hW hcnd _
  have hval : ∀ (j : Nat) t v, Try.f5.params[j]? = some t → args[j]? = some v → Value.okWide Try.prog W .any base t v := hval0
  have hW' := hW
  obtain ⟨p, q, hA0, hV, rfl, hfz, hnd⟩ := hW
  have hA : DataW.TrodAll enc Try.prog W 0 (fun _ => true) true Try.f5.params.toList args.toList ds p := hA0
  rw [Try.params5] at hA hval
  obtain ⟨v0, vs0, d0, ds0, p0, q0, hargs, rfl, rfl, h0, r0⟩ := trodAll_cons hA
  obtain ⟨v1, vs1, d1, ds1, p1, q1, rfl, rfl, rfl, h1, r1⟩ := trodAll_cons r0
  obtain ⟨v2, vs2, d2, ds2, p2, q2, rfl, rfl, rfl, h2, r2⟩ := trodAll_cons r1
  obtain ⟨rfl, rfl, rfl⟩ := trodAll_nil r2
  obtain rfl : args = #[v0, v1, v2] := by cases args; simp_all
  obtain ⟨rfl, rfl⟩ := trodVars_none hV
  obtain ⟨a0, rfl, rfl, rfl, w0⟩ := open_int Try.underlying2 (hval 0 2 v0 rfl rfl) h0
  obtain ⟨a1, rfl, rfl, rfl, w1⟩ := open_int Try.underlying2 (hval 1 2 v1 rfl rfl) h1
  obtain ⟨xs2, hl2, rfl, rfl, rfl, hw2⟩ := open_ints_array Try.underlying37 Try.underlying36 cells36_ cells37_ (hval 2 37 v2 rfl rfl) h2
  obtain ⟨a20, a21, a22, rfl⟩ := list3_ xs2 hl2
  have w20 := hw2 a20 (by simp)
  have w21 := hw2 a21 (by simp)
  have w22 := hw2 a22 (by simp)
  clear hA0 hval0
  refine (walk a0 a1 a20 a21 a22 W w0 w1 w20 w21 w22).mono fun e W' ⟨he, bel⟩ => ?_
  subst he
  exact ⟨_, rfl, _, _, _, [], _, [], hW', trodAll_mk1 (shut_bool Try.underlying4 _), (trodAll_cons_mk (shut_int Try.underlying2 w0) (trodAll_cons_mk (shut_int Try.underlying2 w1) (trodAll_cons_mk (shut_ints_array [a20, a21, a22] Try.underlying37 Try.underlying36 cells36_ cells37_ rfl hw2) trodAll_mk0))), rfl, bel.frame _, fun h => by cases h⟩

theorem over : Rows.sampleTrueRow.holds Try.pinned (OpenSpec.ofChange Rows.sampleTrueSpec) :=
  OpenClaim.holds_of_wide 5 Try.f5 rfl rfl rfl rfl rfl rfl rfl ⟨rfl, rfl, rfl, rfl, rfl⟩ rfl rfl rfl rfl rfl (by kernel_rfl) Try.func5 (by kernel_rfl)
    (of_decide_eq_true (by kernel_rfl)) (by unfold Func.isWrapper; first | (rw [if_pos (by decide +kernel)]; kernel_rfl) | (rw [if_neg (by decide +kernel)]; exact ⟨rfl, rfl⟩))
    (fun os started H enc _ => lifted os started H enc)

theorem proved : Rows.SampleTrueSaid :=
  over
#print axioms proved
end Go.Proofs.Ytanoaelgaabmgaa.sampleTrue
