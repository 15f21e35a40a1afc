/- SampleMakes: of any times and any stamps how far off the clock is, and how long it took, are the document's. No condition on what comes in. -/
import Derived.Test.YtanoaelgaabmgaaRows
import Derived.Test.YtanoaelgaabmgaaWmakes
import Derived.Test.YtanoaelgaabmgaaOpen
import Derived.Test.YtanoaelgaabmgaaArr
import Derived.WalkKit
import Derived.ProofKit
import Derived.OpenShut
import Derived.ShutString
import Derived.ChangeOld
import Derived.Below
namespace Go.Proofs.Ytanoaelgaabmgaa.sampleMakes
open Go.ChangeShapes Go.WideShapes Go.ChangeAt Go.RowKit
set_option linter.unusedVariables false

theorem own : ownKnob Try.prog.godebug = none := by kernel_rfl
theorem laidOut : laidOutB Try.prog = true := by kernel_rfl
theorem cells2_ : Try.prog.cellsOf 2 = 1 := by kernel_rfl
theorem cells22_ : Try.prog.cellsOf 22 = 2 := by kernel_rfl
theorem cells23_ : Try.prog.cellsOf 23 = 1 := by kernel_rfl
theorem cells24_ : Try.prog.cellsOf 24 = 2 := by kernel_rfl
theorem list2_ {α : Type} (l : List α) (h : l.length = 2) : ∃ x0 x1, l = [x0, x1] := by
  match l, h with
  | [x0, x1], _ => exact ⟨x0, x1, rfl⟩

set_option maxRecDepth 100000 in
set_option maxHeartbeats 8000000 in
theorem walk (a00 a01 : Int) (a10 a11 : Int) (w : World) (w00 : (Lit.int .i64 a00).wf = true) (w01 : (Lit.int .i64 a01).wf = true) (w10 : (Lit.int .u64 a10).wf = true) (w11 : (Lit.int .u64 a11).wf = true) :
    Calls Try.prog 3 #[.agg #[.int .i64 a00, .int .i64 a01], .agg #[.int .u64 a10, .int .u64 a11]] w fun e w' => e = .returned (.bool true) ∧ Below w.heap.size w w' := by
  obtain ⟨b00l, b00u⟩ := bounds_i64 w00
  obtain ⟨b01l, b01u⟩ := bounds_i64 w01
  obtain ⟨b10l, b10u⟩ := bounds_u64 w10
  obtain ⟨b11l, b11u⟩ := bounds_u64 w11
  clear w00
  clear w01
  clear w10
  clear w11
  exact walk_makes a00 a01 a10 a11 w b00l b00u b01l b01u

set_option maxRecDepth 100000 in
theorem lifted (os : Os) (started : os.Started) (H : Type) (enc : TypeId × Value → H) :
    ReturnsInHanded {} Try.checked os 3 .any (Rows.sampleMakesSpec.pre6 enc Try.prog Try.f3 Rows.sampleMakesRow.domain false) (Rows.sampleMakesSpec.post enc Try.prog Try.f3 false true false false) := by
  refine returnsInHanded_of_change (C := Try.checked) own started (by kernel_rfl) Try.func3
    (ChangeSpec.witness6 (enc := enc) (C := Try.checked) false ⟨#[], #[.agg #[.int .i64 0, .int .i64 0], .agg #[.int .u64 0, .int .u64 0]], []⟩ 8 (by kernel_rfl) (by kernel_rfl) (by kernel_rfl) (by kernel_rfl)) ?_
  intro W base args ds gs before hval0 hW hcnd _
  have hval : ∀ (j : Nat) t v, Try.f3.params[j]? = some t → args[j]? = some v → Value.okWide Try.prog W .any base t v := hval0
  have hW' := hW
  obtain ⟨p, q, hA0, hV, rfl, hfz, hnd⟩ := hW
  have hA : DataW.TrodAll enc Try.prog W 0 (fun _ => true) true Try.f3.params.toList args.toList ds p := hA0
  rw [Try.params3] at hA hval
  obtain ⟨v0, vs0, d0, ds0, p0, q0, hargs, rfl, rfl, h0, r0⟩ := trodAll_cons hA
  obtain ⟨v1, vs1, d1, ds1, p1, q1, rfl, rfl, rfl, h1, r1⟩ := trodAll_cons r0
  obtain ⟨rfl, rfl, rfl⟩ := trodAll_nil r1
  obtain rfl : args = #[v0, v1] := by cases args; simp_all
  obtain ⟨rfl, rfl⟩ := trodVars_none hV
  obtain ⟨xs0, hl0, rfl, rfl, rfl, hw0⟩ := open_ints_array Try.underlying22 Try.underlying2 cells2_ cells22_ (hval 0 22 v0 rfl rfl) h0
  obtain ⟨a00, a01, rfl⟩ := list2_ xs0 hl0
  have w00 := hw0 a00 (by simp)
  have w01 := hw0 a01 (by simp)
  obtain ⟨xs1, hl1, rfl, rfl, rfl, hw1⟩ := open_ints_array Try.underlying24 Try.underlying23 cells23_ cells24_ (hval 1 24 v1 rfl rfl) h1
  obtain ⟨a10, a11, rfl⟩ := list2_ xs1 hl1
  have w10 := hw1 a10 (by simp)
  have w11 := hw1 a11 (by simp)
  clear hA0 hval0
  refine (walk a00 a01 a10 a11 W w00 w01 w10 w11).mono fun e W' ⟨he, bel⟩ => ?_
  subst he
  exact ⟨_, rfl, _, _, _, [], _, [], hW', trodAll_mk1 (shut_bool Try.underlying4 _), (trodAll_cons_mk (shut_ints_array [a00, a01] Try.underlying22 Try.underlying2 cells2_ cells22_ rfl hw0) (trodAll_cons_mk (shut_ints_array [a10, a11] Try.underlying24 Try.underlying23 cells23_ cells24_ rfl hw1) trodAll_mk0)), rfl, bel.frame _, fun h => by cases h⟩

theorem over : Rows.sampleMakesRow.holds Try.pinned (OpenSpec.ofChange Rows.sampleMakesSpec) :=
  OpenClaim.holds_of_wide 3 Try.f3 rfl rfl rfl rfl rfl rfl rfl ⟨rfl, rfl, rfl, rfl, rfl⟩ rfl rfl rfl rfl rfl (by kernel_rfl) Try.func3 (by kernel_rfl)
    (of_decide_eq_true (by kernel_rfl)) (by unfold Func.isWrapper; first | (rw [if_pos (by decide +kernel)]; kernel_rfl) | (rw [if_neg (by decide +kernel)]; exact ⟨rfl, rfl⟩))
    (fun os started H enc _ => lifted os started H enc)

theorem proved : Rows.SampleMakesSaid :=
  over
#print axioms proved
end Go.Proofs.Ytanoaelgaabmgaa.sampleMakes
