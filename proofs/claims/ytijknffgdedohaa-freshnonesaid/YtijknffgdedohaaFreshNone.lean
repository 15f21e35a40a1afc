/- FreshNone: of no store nothing is told; a new one, and one that was cleared, has none. No condition. -/
import Derived.Test.YtijknffgdedohaaRows
import Derived.Test.YtijknffgdedohaaWnone
import Derived.Test.YtijknffgdedohaaOpen
import Derived.Test.YtijknffgdedohaaArr
import Derived.WalkKit
import Derived.ProofKit
import Derived.OpenShut
import Derived.ShutString
import Derived.ChangeOld
import Derived.Below
namespace Go.Proofs.Ytijknffgdedohaa.freshNone
open Go.ChangeShapes Go.WideShapes Go.ChangeAt Go.RowKit
set_option linter.unusedVariables false

theorem own : ownKnob Try.prog.godebug = none := by kernel_rfl
theorem laidOut : laidOutB Try.prog = true := by kernel_rfl
theorem cells2_ : Try.prog.cellsOf 2 = 1 := by kernel_rfl
theorem cells23_ : Try.prog.cellsOf 23 = 3 := by kernel_rfl
theorem list3_ {α : Type} (l : List α) (h : l.length = 3) : ∃ x0 x1 x2, l = [x0, x1, x2] := by
  match l, h with
  | [x0, x1, x2], _ => exact ⟨x0, x1, x2, rfl⟩

set_option maxRecDepth 100000 in
set_option maxHeartbeats 8000000 in
theorem walk (p0 : Sm) (a10 a11 a12 : Int) (w : World) (hp0 : p0.In) (w10 : (Lit.int .i64 a10).wf = true) (w11 : (Lit.int .i64 a11).wf = true) (w12 : (Lit.int .i64 a12).wf = true) :
    Calls Try.prog 4 #[.agg #[.int .i64 p0.o, .int .i64 p0.d, .int .i64 p0.t, .int .i64 p0.s], .agg #[.int .i64 a10, .int .i64 a11, .int .i64 a12]] w fun e w' => e = .returned (.bool true) ∧ Below w.heap.size w w' := by
  obtain ⟨b10l, b10u⟩ := bounds_i64 w10
  obtain ⟨b11l, b11u⟩ := bounds_i64 w11
  obtain ⟨b12l, b12u⟩ := bounds_i64 w12
  clear w10
  clear w11
  clear w12
  exact walk_none p0 a10 a11 a12 w b10l b10u b12l b12u

set_option maxRecDepth 100000 in
theorem lifted (os : Os) (started : os.Started) (H : Type) (enc : TypeId × Value → H) :
    ReturnsInHanded {} Try.checked os 4 .any (Rows.freshNoneSpec.pre6 enc Try.prog Try.f4 Rows.freshNoneRow.domain false) (Rows.freshNoneSpec.post enc Try.prog Try.f4 false true false false) := by
  refine returnsInHanded_of_change (C := Try.checked) own started (by kernel_rfl) Try.func4
    (ChangeSpec.witness6 (enc := enc) (C := Try.checked) false ⟨#[], #[.agg #[.int .i64 0, .int .i64 0, .int .i64 0, .int .i64 0], .agg #[.int .i64 0, .int .i64 0, .int .i64 0]], []⟩ 8 (by kernel_rfl) (by kernel_rfl) (by kernel_rfl) (by kernel_rfl)) ?_
  intro W base args ds gs before hval0 hW hcnd _
  have hval : ∀ (j : Nat) t v, Try.f4.params[j]? = some t → args[j]? = some v → Value.okWide Try.prog W .any base t v := hval0
  have hW' := hW
  obtain ⟨p, q, hA0, hV, rfl, hfz, hnd⟩ := hW
  have hA : DataW.TrodAll enc Try.prog W 0 (fun _ => true) true Try.f4.params.toList args.toList ds p := hA0
  rw [Try.params4] at hA hval
  obtain ⟨v0, vs0, d0, ds0, p0, q0, hargs, rfl, rfl, h0, r0⟩ := trodAll_cons hA
  obtain ⟨v1, vs1, d1, ds1, p1, q1, rfl, rfl, rfl, h1, r1⟩ := trodAll_cons r0
  obtain ⟨rfl, rfl, rfl⟩ := trodAll_nil r1
  obtain rfl : args = #[v0, v1] := by cases args; simp_all
  obtain ⟨rfl, rfl⟩ := trodVars_none hV
  have k0 := h0
  have lt0 : ∀ x ∈ p0, x.block < W.heap.size := by obtain ⟨m, hm⟩ := k0; exact DataW.trod_lt m _ _ _ hm
  obtain ⟨x0_0, x0_1, x0_2, x0_3, rfl, w0_0, w0_1, w0_2, w0_3⟩ := open_sm (hval 0 28 v0 rfl rfl) h0
  have hp0 : (Sm.mk x0_0 x0_1 x0_2 x0_3).In := ⟨(bounds_i64 w0_0).1, (bounds_i64 w0_0).2, (bounds_i64 w0_1).1, (bounds_i64 w0_1).2, (bounds_i64 w0_2).1, (bounds_i64 w0_2).2, (bounds_i64 w0_3).1, (bounds_i64 w0_3).2⟩
  obtain ⟨xs1, hl1, rfl, rfl, rfl, hw1⟩ := open_ints_array Try.underlying23 Try.underlying2 cells2_ cells23_ (hval 1 23 v1 rfl rfl) h1
  obtain ⟨a10, a11, a12, rfl⟩ := list3_ xs1 hl1
  have w10 := hw1 a10 (by simp)
  have w11 := hw1 a11 (by simp)
  have w12 := hw1 a12 (by simp)
  clear hA0 hval0
  refine (walk ⟨x0_0, x0_1, x0_2, x0_3⟩ a10 a11 a12 W hp0 w10 w11 w12).mono fun e W' ⟨he, bel⟩ => ?_
  subst he
  exact ⟨_, rfl, _, _, _, [], _, [], hW', trodAll_mk1 (shut_bool Try.underlying4 _), (trodAll_cons_mk (Below.trod laidOut (by kernel_rfl) (of_decide_eq_true (by kernel_rfl)) k0 bel lt0) (trodAll_cons_mk (shut_ints_array [a10, a11, a12] Try.underlying23 Try.underlying2 cells2_ cells23_ rfl hw1) trodAll_mk0)), rfl, bel.frame _, fun h => by cases h⟩

theorem over : Rows.freshNoneRow.holds Try.pinned (OpenSpec.ofChange Rows.freshNoneSpec) :=
  OpenClaim.holds_of_wide 4 Try.f4 rfl rfl rfl rfl rfl rfl rfl ⟨rfl, rfl, rfl, rfl, rfl⟩ rfl rfl rfl rfl rfl (by kernel_rfl) Try.func4 (by kernel_rfl)
    (of_decide_eq_true (by kernel_rfl)) (by unfold Func.isWrapper; first | (rw [if_pos (by decide +kernel)]; kernel_rfl) | (rw [if_neg (by decide +kernel)]; exact ⟨rfl, rfl⟩))
    (fun os started H enc _ => lifted os started H enc)

theorem proved : Rows.FreshNoneSaid :=
  over
#print axioms proved
end Go.Proofs.Ytijknffgdedohaa.freshNone
