/- SlewSums: the time less the reading goes on by what was corrected in all. -/
import Derived.Test.YtnooneejidpdaaaRows
import Derived.Test.YtnooneejidpdaaaWsums
import Derived.Test.YtnooneejidpdaaaOpen
import Derived.Test.YtnooneejidpdaaaArr
import Derived.WalkKit
import Derived.ProofKit
import Derived.OpenShut
import Derived.ShutString
import Derived.ChangeOld
import Derived.Below
namespace Go.Proofs.Ytnooneejidpdaaa.slewSums
open Go.ChangeShapes Go.WideShapes Go.ChangeAt Go.RowKit
set_option linter.unusedVariables false

theorem own : ownKnob Try.prog.godebug = none := by kernel_rfl
theorem laidOut : laidOutB Try.prog = true := by kernel_rfl
theorem cells2_ : Try.prog.cellsOf 2 = 1 := by kernel_rfl
theorem cells22_ : Try.prog.cellsOf 22 = 2 := by kernel_rfl
theorem cells53_ : Try.prog.cellsOf 53 = 4 := by kernel_rfl
theorem list2_ {α : Type} (l : List α) (h : l.length = 2) : ∃ x0 x1, l = [x0, x1] := by
  match l, h with
  | [x0, x1], _ => exact ⟨x0, x1, rfl⟩
theorem list4_ {α : Type} (l : List α) (h : l.length = 4) : ∃ x0 x1 x2 x3, l = [x0, x1, x2, x3] := by
  match l, h with
  | [x0, x1, x2, x3], _ => exact ⟨x0, x1, x2, x3, rfl⟩

set_option maxRecDepth 100000 in
set_option maxHeartbeats 8000000 in
theorem walk (a00 a01 : Int) (a1 : Int) (a20 a21 a22 a23 : Int) (w : World) (w00 : (Lit.int .i64 a00).wf = true) (w01 : (Lit.int .i64 a01).wf = true) (w1 : (Lit.int .u16 a1).wf = true) (w20 : (Lit.int .i64 a20).wf = true) (w21 : (Lit.int .i64 a21).wf = true) (w22 : (Lit.int .i64 a22).wf = true) (w23 : (Lit.int .i64 a23).wf = true) :
    Calls Try.prog 6 #[.agg #[.int .i64 a00, .int .i64 a01], .int .u16 a1, .agg #[.int .i64 a20, .int .i64 a21, .int .i64 a22, .int .i64 a23]] w fun e w' => e = .returned (.bool true) ∧ Below w.heap.size w w' := by
  obtain ⟨b00l, b00u⟩ := bounds_i64 w00
  obtain ⟨b01l, b01u⟩ := bounds_i64 w01
  obtain ⟨b1l, b1u⟩ := bounds_u16 w1
  obtain ⟨b20l, b20u⟩ := bounds_i64 w20
  obtain ⟨b21l, b21u⟩ := bounds_i64 w21
  obtain ⟨b22l, b22u⟩ := bounds_i64 w22
  obtain ⟨b23l, b23u⟩ := bounds_i64 w23
  clear w00
  clear w01
  clear w1
  clear w20
  clear w21
  clear w22
  clear w23
  exact walk_sums a00 a01 a1 a20 a21 a22 a23 w b1l b1u

set_option maxRecDepth 100000 in
theorem lifted (os : Os) (started : os.Started) (H : Type) (enc : TypeId × Value → H) :
    ReturnsInHanded {} Try.checked os 6 .any (Rows.slewSumsSpec.pre6 enc Try.prog Try.f6 Rows.slewSumsRow.domain false) (Rows.slewSumsSpec.post enc Try.prog Try.f6 false true false false) := by
  refine returnsInHanded_of_change (C := Try.checked) own started (by kernel_rfl) Try.func6
    (ChangeSpec.witness6 (enc := enc) (C := Try.checked) false ⟨#[], #[.agg #[.int .i64 0, .int .i64 0], .int .u16 0, .agg #[.int .i64 0, .int .i64 0, .int .i64 0, .int .i64 0]], []⟩ 8 (by kernel_rfl) (by kernel_rfl) (by kernel_rfl) (by kernel_rfl)) ?_
  intro W base args ds gs before hval0 hW hcnd _
  have hval : ∀ (j : Nat) t v, Try.f6.params[j]? = some t → args[j]? = some v → Value.okWide Try.prog W .any base t v := hval0
  have hW' := hW
  obtain ⟨p, q, hA0, hV, rfl, hfz, hnd⟩ := hW
  have hA : DataW.TrodAll enc Try.prog W 0 (fun _ => true) true Try.f6.params.toList args.toList ds p := hA0
  rw [Try.params6] at hA hval
  obtain ⟨v0, vs0, d0, ds0, p0, q0, hargs, rfl, rfl, h0, r0⟩ := trodAll_cons hA
  obtain ⟨v1, vs1, d1, ds1, p1, q1, rfl, rfl, rfl, h1, r1⟩ := trodAll_cons r0
  obtain ⟨v2, vs2, d2, ds2, p2, q2, rfl, rfl, rfl, h2, r2⟩ := trodAll_cons r1
  obtain ⟨rfl, rfl, rfl⟩ := trodAll_nil r2
  obtain rfl : args = #[v0, v1, v2] := by cases args; simp_all
  obtain ⟨rfl, rfl⟩ := trodVars_none hV
  obtain ⟨xs0, hl0, rfl, rfl, rfl, hw0⟩ := open_ints_array Try.underlying22 Try.underlying2 cells2_ cells22_ (hval 0 22 v0 rfl rfl) h0
  obtain ⟨a00, a01, rfl⟩ := list2_ xs0 hl0
  have w00 := hw0 a00 (by simp)
  have w01 := hw0 a01 (by simp)
  obtain ⟨a1, rfl, rfl, rfl, w1⟩ := open_int Try.underlying45 (hval 1 45 v1 rfl rfl) h1
  obtain ⟨xs2, hl2, rfl, rfl, rfl, hw2⟩ := open_ints_array Try.underlying53 Try.underlying2 cells2_ cells53_ (hval 2 53 v2 rfl rfl) h2
  obtain ⟨a20, a21, a22, a23, rfl⟩ := list4_ xs2 hl2
  have w20 := hw2 a20 (by simp)
  have w21 := hw2 a21 (by simp)
  have w22 := hw2 a22 (by simp)
  have w23 := hw2 a23 (by simp)
  clear hA0 hval0
  refine (walk a00 a01 a1 a20 a21 a22 a23 W w00 w01 w1 w20 w21 w22 w23).mono fun e W' ⟨he, bel⟩ => ?_
  subst he
  exact ⟨_, rfl, _, _, _, [], _, [], hW', trodAll_mk1 (shut_bool Try.underlying4 _), (trodAll_cons_mk (shut_ints_array [a00, a01] Try.underlying22 Try.underlying2 cells2_ cells22_ rfl hw0) (trodAll_cons_mk (shut_int Try.underlying45 w1) (trodAll_cons_mk (shut_ints_array [a20, a21, a22, a23] Try.underlying53 Try.underlying2 cells2_ cells53_ rfl hw2) trodAll_mk0))), rfl, bel.frame _, fun h => by cases h⟩

theorem over : Rows.slewSumsRow.holds Try.pinned (OpenSpec.ofChange Rows.slewSumsSpec) :=
  OpenClaim.holds_of_wide 6 Try.f6 rfl rfl rfl rfl rfl rfl rfl ⟨rfl, rfl, rfl, rfl, rfl⟩ rfl rfl rfl rfl rfl (by kernel_rfl) Try.func6 (by kernel_rfl)
    (of_decide_eq_true (by kernel_rfl)) (by unfold Func.isWrapper; first | (rw [if_pos (by decide +kernel)]; kernel_rfl) | (rw [if_neg (by decide +kernel)]; exact ⟨rfl, rfl⟩))
    (fun os started H enc _ => lifted os started H enc)

theorem proved : Rows.SlewSumsSaid :=
  over
#print axioms proved
end Go.Proofs.Ytnooneejidpdaaa.slewSums
