/- SampleStays: how long a server has a query plays no part in how long it took; a longer way makes it longer, by as much. No condition on what comes in. -/
import Derived.Test.YtanoaelgaabmgaaRows
import Derived.Test.YtanoaelgaabmgaaWstays
import Derived.Test.YtanoaelgaabmgaaOpen
import Derived.Test.YtanoaelgaabmgaaArr
import Derived.WalkKit
import Derived.ProofKit
import Derived.OpenShut
import Derived.ShutString
import Derived.ChangeOld
import Derived.Below
namespace Go.Proofs.Ytanoaelgaabmgaa.sampleStays
open Go.ChangeShapes Go.WideShapes Go.ChangeAt Go.RowKit
set_option linter.unusedVariables false

theorem own : ownKnob Try.prog.godebug = none := by kernel_rfl
theorem laidOut : laidOutB Try.prog = true := by kernel_rfl
theorem cells36_ : Try.prog.cellsOf 36 = 1 := by kernel_rfl
theorem cells37_ : Try.prog.cellsOf 37 = 3 := by kernel_rfl
theorem list3_ {α : Type} (l : List α) (h : l.length = 3) : ∃ x0 x1 x2, l = [x0, x1, x2] := by
  match l, h with
  | [x0, x1, x2], _ => exact ⟨x0, x1, x2, rfl⟩

set_option maxRecDepth 100000 in
set_option maxHeartbeats 8000000 in
theorem walk (a0 : Int) (a10 a11 a12 : Int) (a2 : Int) (w : World) (w0 : (Lit.int .i64 a0).wf = true) (w10 : (Lit.int .u32 a10).wf = true) (w11 : (Lit.int .u32 a11).wf = true) (w12 : (Lit.int .u32 a12).wf = true) (w2 : (Lit.int .u32 a2).wf = true) :
    Calls Try.prog 9 #[.int .i64 a0, .agg #[.int .u32 a10, .int .u32 a11, .int .u32 a12], .int .u32 a2] w fun e w' => e = .returned (.bool true) ∧ Below w.heap.size w w' := by
  obtain ⟨b0l, b0u⟩ := bounds_i64 w0
  obtain ⟨b10l, b10u⟩ := bounds_u32 w10
  obtain ⟨b11l, b11u⟩ := bounds_u32 w11
  obtain ⟨b12l, b12u⟩ := bounds_u32 w12
  obtain ⟨b2l, b2u⟩ := bounds_u32 w2
  clear w0
  clear w10
  clear w11
  clear w12
  clear w2
  exact walk_stays a0 a10 a11 a12 a2 w b10l b10u b11l b11u b12l b12u b2l b2u

set_option maxRecDepth 100000 in
theorem lifted (os : Os) (started : os.Started) (H : Type) (enc : TypeId × Value → H) :
    ReturnsInHanded {} Try.checked os 9 .any (Rows.sampleStaysSpec.pre6 enc Try.prog Try.f9 Rows.sampleStaysRow.domain false) (Rows.sampleStaysSpec.post enc Try.prog Try.f9 false true false false) := by
  refine returnsInHanded_of_change (C := Try.checked) own started (by kernel_rfl) Try.func9
    (ChangeSpec.witness6 (enc := enc) (C := Try.checked) false ⟨#[], #[.int .i64 0, .agg #[.int .u32 0, .int .u32 0, .int .u32 0], .int .u32 0], []⟩ 8 (by kernel_rfl) (by kernel_rfl) (by kernel_rfl) (by kernel_rfl)) ?_
  intro W base args ds gs before hval0 hW hcnd _
  have hval : ∀ (j : Nat) t v, Try.f9.params[j]? = some t → args[j]? = some v → Value.okWide Try.prog W .any base t v := hval0
  have hW' := hW
  obtain ⟨p, q, hA0, hV, rfl, hfz, hnd⟩ := hW
  have hA : DataW.TrodAll enc Try.prog W 0 (fun _ => true) true Try.f9.params.toList args.toList ds p := hA0
  rw [Try.params9] at hA hval
  obtain ⟨v0, vs0, d0, ds0, p0, q0, hargs, rfl, rfl, h0, r0⟩ := trodAll_cons hA
  obtain ⟨v1, vs1, d1, ds1, p1, q1, rfl, rfl, rfl, h1, r1⟩ := trodAll_cons r0
  obtain ⟨v2, vs2, d2, ds2, p2, q2, rfl, rfl, rfl, h2, r2⟩ := trodAll_cons r1
  obtain ⟨rfl, rfl, rfl⟩ := trodAll_nil r2
  obtain rfl : args = #[v0, v1, v2] := by cases args; simp_all
  obtain ⟨rfl, rfl⟩ := trodVars_none hV
  obtain ⟨a0, rfl, rfl, rfl, w0⟩ := open_int Try.underlying2 (hval 0 2 v0 rfl rfl) h0
  obtain ⟨xs1, hl1, rfl, rfl, rfl, hw1⟩ := open_ints_array Try.underlying37 Try.underlying36 cells36_ cells37_ (hval 1 37 v1 rfl rfl) h1
  obtain ⟨a10, a11, a12, rfl⟩ := list3_ xs1 hl1
  have w10 := hw1 a10 (by simp)
  have w11 := hw1 a11 (by simp)
  have w12 := hw1 a12 (by simp)
  obtain ⟨a2, rfl, rfl, rfl, w2⟩ := open_int Try.underlying36 (hval 2 36 v2 rfl rfl) h2
  clear hA0 hval0
  refine (walk a0 a10 a11 a12 a2 W w0 w10 w11 w12 w2).mono fun e W' ⟨he, bel⟩ => ?_
  subst he
  exact ⟨_, rfl, _, _, _, [], _, [], hW', trodAll_mk1 (shut_bool Try.underlying4 _), (trodAll_cons_mk (shut_int Try.underlying2 w0) (trodAll_cons_mk (shut_ints_array [a10, a11, a12] Try.underlying37 Try.underlying36 cells36_ cells37_ rfl hw1) (trodAll_cons_mk (shut_int Try.underlying36 w2) trodAll_mk0))), rfl, bel.frame _, fun h => by cases h⟩

theorem over : Rows.sampleStaysRow.holds Try.pinned (OpenSpec.ofChange Rows.sampleStaysSpec) :=
  OpenClaim.holds_of_wide 9 Try.f9 rfl rfl rfl rfl rfl rfl rfl ⟨rfl, rfl, rfl, rfl, rfl⟩ rfl rfl rfl rfl rfl (by kernel_rfl) Try.func9 (by kernel_rfl)
    (of_decide_eq_true (by kernel_rfl)) (by unfold Func.isWrapper; first | (rw [if_pos (by decide +kernel)]; kernel_rfl) | (rw [if_neg (by decide +kernel)]; exact ⟨rfl, rfl⟩))
    (fun os started H enc _ => lifted os started H enc)

theorem proved : Rows.SampleStaysSaid :=
  over
#print axioms proved
end Go.Proofs.Ytanoaelgaabmgaa.sampleStays
