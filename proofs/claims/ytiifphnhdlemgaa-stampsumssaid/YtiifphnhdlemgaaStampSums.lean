/- For all stamps and all two steps the statement StampSums returns true: the way by a third stamp is the way straight, or 1 less. No condition. -/
import Derived.Test.YtiifphnhdlemgaaRows
import Derived.Test.YtiifphnhdlemgaaDiff
import Derived.Test.YtiifphnhdlemgaaArr
import Derived.WalkKit
import Derived.ProofKit
import Derived.OpenShut
namespace Go.Proofs.Ytiifphnhdlemgaa.stampSums
open Go.ChangeShapes Go.WideShapes Go.ChangeAt Go.RowKit
set_option linter.unusedVariables false      -- a walk need not use every 'w<i>' (that an integer argument fits its kind)

theorem own : ownKnob Try.prog.godebug = none := by kernel_rfl
theorem cells21 : Try.prog.cellsOf 21 = 1 := by kernel_rfl
theorem cells37 : Try.prog.cellsOf 37 = 2 := by kernel_rfl
theorem list2 {α : Type} (l : List α) (h : l.length = 2) : ∃ x0 x1, l = [x0, x1] := by
  match l, h with
  | [x0, x1], _ => exact ⟨x0, x1, rfl⟩

theorem nsf_sum (u v : Int) : nsf u + nsf v - nsf (u + v) = 0 ∨ nsf u + nsf v - nsf (u + v) = -1 := by
  unfold nsf
  rw [Int.add_mul]
  generalize u * 1000000000 = p
  generalize v * 1000000000 = q
  omega
theorem step_way (a u : Int) (h1 : -2251799813685248 ≤ u) (h2 : u ≤ 2251799813685248) : way (IntKind.u64.wrap (a + IntKind.u64.wrap u)) a = u := by
  simp only [IntKind.wrap_u64]; unfold way; omega
theorem step_two (a u v : Int) (h1 : -2251799813685248 ≤ u) (h2 : u ≤ 2251799813685248) (h3 : -2251799813685248 ≤ v) (h4 : v ≤ 2251799813685248) :
    way (IntKind.u64.wrap (IntKind.u64.wrap (a + IntKind.u64.wrap u) + IntKind.u64.wrap v)) a = u + v := by
  simp only [IntKind.wrap_u64]; unfold way; omega
theorem small_bd (u : Int) (h1 : -4503599627370496 ≤ u) (h2 : u ≤ 4503599627370496) : -1048576000000000 ≤ nsf u ∧ nsf u ≤ 1048576000000000 := by unfold nsf; omega
set_option maxHeartbeats 1000000 in
theorem walk (a0 : Int) (a10 : Int) (a11 : Int) (w0 : (Lit.int .u64 a0).wf = true) (w10 : (Lit.int .i32 a10).wf = true) (w11 : (Lit.int .i32 a11).wf = true) (w : World) :
    Calls Try.prog 9 #[.int .u64 a0, .agg #[.int .i32 a10, .int .i32 a11]] w fun e w' => e = .returned (.bool true) ∧ Grown w w' := by
  obtain ⟨b0l, b0u⟩ := bounds_u64 w0
  obtain ⟨b10l, b10u⟩ := bounds_i32 w10
  obtain ⟨b11l, b11u⟩ := bounds_i32 w11
  clear w0
  clear w10
  clear w11
  have HA := Lib.hid alive_any
  obtain ⟨u, eu⟩ : ∃ u, a10 * 1048576 = u := ⟨_, rfl⟩
  have u1 : -2251799813685248 ≤ u := by omega
  have u2 : u ≤ 2251799813685248 := by omega
  obtain ⟨v, ev⟩ : ∃ v, a11 * 1048576 = v := ⟨_, rfl⟩
  have v1 : -2251799813685248 ≤ v := by omega
  have v2 : v ≤ 2251799813685248 := by omega
  have e1 := step_way a0 u u1 u2
  have e3 := step_two a0 u v u1 u2 v1 v2
  obtain ⟨b, eb⟩ : ∃ b, IntKind.u64.wrap (a0 + IntKind.u64.wrap u) = b := ⟨_, rfl⟩
  rw [eb] at e1 e3
  have e2 := step_way b v v1 v2
  obtain ⟨c, ec⟩ : ∃ c, IntKind.u64.wrap (b + IntKind.u64.wrap v) = c := ⟨_, rfl⟩
  rw [ec] at e2 e3
  have H1 := fun w => diff_any b a0 w
  have H2 := fun w => diff_any c b w
  have H3 := fun w => diff_any c a0 w
  simp only [e1] at H1
  simp only [e2] at H2
  simp only [e3] at H3
  have hs := nsf_sum u v
  obtain ⟨p1, p2⟩ := small_bd u (by omega) (by omega)
  obtain ⟨q1, q2⟩ := small_bd v (by omega) (by omega)
  obtain ⟨r1, r2⟩ := small_bd (u + v) (by omega) (by omega)
  have K1 := Lib.hid H1
  have K2 := Lib.hid H2
  have K3 := Lib.hid H3
  clear H1 H2 H3 e1 e2 e3
  generalize nsf u = p at *
  generalize nsf v = q at *
  generalize nsf (u + v) = r at *
  obtain ⟨s, es⟩ : ∃ s, p + q - r = s := ⟨_, rfl⟩
  rw [es] at hs
  rcases hs with rfl | rfl
  · go_enter Try.func9, Try.ntmps9
    go_wp2_with fail
    refine (K1.out _).mono ?_
    rintro e w1 ⟨rfl, hg1⟩
    go_wp2_with fail
    refine (K2.out _).mono ?_
    rintro e w2 ⟨rfl, hg2⟩
    go_wp2_with fail
    refine (K3.out _).mono ?_
    rintro e w3 ⟨rfl, hg3⟩
    go_wp2_with fail
    refine (HA.out _).mono ?_
    rintro e w4 ⟨rfl, hg4⟩
    go_wp2
    go_ret
    exact ⟨rfl, grown_trans ((Grown.refl _).alloc _ _) (grown_trans hg1 (grown_trans hg2 (grown_trans hg3 hg4)))⟩
  · go_enter Try.func9, Try.ntmps9
    go_wp2_with fail
    refine (K1.out _).mono ?_
    rintro e w1 ⟨rfl, hg1⟩
    go_wp2_with fail
    refine (K2.out _).mono ?_
    rintro e w2 ⟨rfl, hg2⟩
    go_wp2_with fail
    refine (K3.out _).mono ?_
    rintro e w3 ⟨rfl, hg3⟩
    go_wp2_with fail
    refine (HA.out _).mono ?_
    rintro e w4 ⟨rfl, hg4⟩
    go_wp2
    go_ret
    exact ⟨rfl, grown_trans ((Grown.refl _).alloc _ _) (grown_trans hg1 (grown_trans hg2 (grown_trans hg3 hg4)))⟩

set_option maxRecDepth 100000 in
theorem lifted (os : Os) (started : os.Started) (H : Type) (enc : TypeId × Value → H) :
    ReturnsInHanded {} Try.checked os 9 .any (Rows.stampSumsSpec.pre6 enc Try.prog Try.f9 Rows.stampSumsRow.domain false) (Rows.stampSumsSpec.post enc Try.prog Try.f9 false true false false) := by
  refine returnsInHanded_of_change (C := Try.checked) own started (by kernel_rfl) Try.func9
    (ChangeSpec.witness6 (enc := enc) (C := Try.checked) false ⟨#[], #[.int .u64 0, .agg #[.int .i32 0, .int .i32 0]], []⟩ 8 (by kernel_rfl) (by kernel_rfl) (by kernel_rfl) (by kernel_rfl)) ?_
  intro W base args ds gs before hval0 hW hcnd _
  have hval : ∀ (j : Nat) t v, Try.f9.params[j]? = some t → args[j]? = some v → Value.okWide Try.prog W .any base t v := hval0
  have hW' := hW
  obtain ⟨p, q, hA0, hV, rfl, hfz, hnd⟩ := hW
  have hA : DataW.TrodAll enc Try.prog W 0 (fun _ => true) true Try.f9.params.toList args.toList ds p := hA0
  rw [Try.params9] at hA hval
  obtain ⟨v0, vs0, d0, ds0, p0, q0, hargs, rfl, rfl, h0, r0⟩ := trodAll_cons hA
  obtain ⟨v1, vs1, d1, ds1, p1, q1, rfl, rfl, rfl, h1, r1⟩ := trodAll_cons r0
  obtain ⟨rfl, rfl, rfl⟩ := trodAll_nil r1
  obtain rfl : args = #[v0, v1] := by cases args; simp_all
  obtain ⟨rfl, rfl⟩ := trodVars_none hV
  obtain ⟨a0, rfl, rfl, rfl, w0⟩ := open_int Try.underlying22 (hval 0 22 v0 rfl rfl) h0
  obtain ⟨xs1, hl1, rfl, rfl, rfl, hw1⟩ := open_ints_array Try.underlying37 Try.underlying21 cells21 cells37 (hval 1 37 v1 rfl rfl) h1
  obtain ⟨a10, a11, rfl⟩ := list2 xs1 hl1
  have w10 := hw1 a10 (by simp)
  have w11 := hw1 a11 (by simp)
  clear hA0 hval0
  simp only [List.append_nil] at hW'
  refine (walk a0 a10 a11 w0 w10 w11 W).mono fun e W' ⟨he, hg⟩ => ?_
  subst he
  exact ⟨_, rfl, post_of_same (pa := []) (pv := []) hW' (fun _ _ _ => (trodAll_cons_mk (shut_bool Try.underlying4 _) trodAll_mk0)) (fun sp _ => (trodAll_cons_mk (shut_int Try.underlying22 w0) (trodAll_cons_mk (shut_ints_array [a10, a11] Try.underlying37 Try.underlying21 cells21 cells37 rfl hw1) trodAll_mk0))) (fun _ _ => rfl) rfl
    (hg.frame _) hg.2.1 (ok_one (by kernel_rfl) rfl (okWide_bool_mk Try.underlying4 _))⟩

theorem over : Rows.stampSumsRow.holds Try.pinned (OpenSpec.ofChange Rows.stampSumsSpec) :=
  OpenClaim.holds_of_wide 9 Try.f9 rfl rfl rfl rfl rfl rfl rfl ⟨rfl, rfl, rfl, rfl, rfl⟩ rfl rfl rfl rfl rfl (by kernel_rfl) Try.func9 (by kernel_rfl)
    (of_decide_eq_true (by kernel_rfl)) (by unfold Func.isWrapper; first | (rw [if_pos (by decide +kernel)]; kernel_rfl) | (rw [if_neg (by decide +kernel)]; exact ⟨rfl, rfl⟩))
    (fun os started H enc _ => lifted os started H enc)

theorem proved : Rows.StampSumsSaid :=
  over
#print axioms proved
end Go.Proofs.Ytiifphnhdlemgaa.stampSums
