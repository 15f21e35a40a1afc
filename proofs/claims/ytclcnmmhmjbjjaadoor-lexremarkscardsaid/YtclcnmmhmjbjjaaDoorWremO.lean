/- LexRemarks' walk. -/
import Derived.Test.YtclcnmmhmjbjjaaDoorWremarks1
import Derived.BigQuiet
namespace Go.Proofs.YtclcnmmhmjbjjaaDoor
open Go.RowKit Go.Proofs.Lx


set_option maxRecDepth 100000 in
set_option maxHeartbeats 8000000 in
theorem remarks_one (s0 s1 : ByteArray) (w : World) (hm : Mx w) (h0 : (s0.size : Int) ≤ 1000) (h1 : (s1.size : Int) ≤ 1000) (k0 : (10 : UInt8) ∉ s0.data.toList) (k1 : (10 : UInt8) ∉ s1.data.toList) (n : Nat) (ws : List Bs) (z1 : ws.length ≤ 1000000) (z2 : (Lib.join ws [32]).length ≤ 1000000) (gl : Gives s0 [(1, ws)] n 0) (gr : Gives (s0 ++ ⟨#[35]⟩ ++ s1) [(1, ws)] n 0) :
    Calls Tryd.prog 9 #[.string s0, .string s1] w fun e w' => e = .returned (.bool true) ∧ Below w.heap.size w w' := by
  have HM := Lib.hid hm
  have K0 : Hid (∀ w, Calls Tryd.prog 22 #[.string s0, .string ⟨#[10]⟩] w fun e w' => e = .returned (.bool false) ∧ w = w') := fun w => by
    have := cont_any s0 w
    rw [decide_eq_false k0] at this
    exact this
  have K1 : Hid (∀ w, Calls Tryd.prog 22 #[.string s1, .string ⟨#[10]⟩] w fun e w' => e = .returned (.bool false) ∧ w = w') := fun w => by
    have := cont_any s1 w
    rw [decide_eq_false k1] at this
    exact this
  have KL := Lib.hid gl
  have KR := Lib.hid gr
  have d0 : decide ((1000 : Int) < (s0.size : Int)) = false := decide_eq_false (by omega)
  have d1 : decide ((1000 : Int) < (s1.size : Int)) = false := decide_eq_false (by omega)
  clear hm k0 k1 gl gr
  skip
  go_enter Tryd.func9, Tryd.ntmps9
  go_wp2_with (first
    | (go_at_call 22; refine (K0.out _).mono ?_; rintro e w' ⟨rfl, rfl⟩)
    | (go_at_call 22; refine (K1.out _).mono ?_; rintro e w' ⟨rfl, rfl⟩))
  refine (KL.out w HM.out).mono ?_
  rintro e w1 ⟨v1, hv1, rfl, hb1⟩
  have H1 := Lib.hid hv1
  obtain ⟨A1, c1, rfl, _⟩ := hv1.len
  clear hv1
  go_wp2_with fail
  refine (KR.out w1 (HM.out.below hb1 (Nat.le_refl _))).mono ?_
  rintro e w2 ⟨v2, hv2, rfl, hb2⟩
  have H2 := Lib.hid hv2
  obtain ⟨A2, c2, rfl, _⟩ := hv2.len
  have H12 := Lib.hid (H1.out.below hb2 (Nat.le_refl _))
  clear hv2
  have HM2 := Lib.hid ((HM.out.below hb1 (Nat.le_refl _)).below hb2 (Nat.le_refl _))
  have hb12 : Below w.heap.size w w2 := hb1.trans (hb2.mono hb1.size)
  clear K0 K1 KL KR d0 d1 h0 h1
  obtain ⟨g1, y1, q1, _, hg1, r1⟩ := H12.out.at_ (by simp)
  obtain ⟨g2, y2, q2, _, hg2, r2⟩ := H2.out.at_ (by simp)
  injection q1 with q1 _ q3
  injection q2 with q2 _ q4
  subst q1 q2 q3 q4
  obtain ⟨_, u1, a1, a2⟩ := r1 0 1 ws rfl
  obtain ⟨_, u2, x1, x2⟩ := r2 0 1 ws rfl
  have cA : ∀ d os, Calls Tryd.prog 10 #[] (Sort.grow (redrawn w2 d) os) fun e w'' => e = .returned (.bool true) ∧ ∃ p : Regrown, w'' = Sort.grow (redrawn w2 p.d) p.os := fun d os => Calls.regrown_of (alive_any _ (HM2.out.below (below_regrown w2 d os) (Nat.le_refl _)))
  have cJ : ∀ d os, Calls Tryd.prog 21 #[u1, .string ⟨#[32]⟩] (Sort.grow (redrawn w2 d) os) fun e w'' => e = .returned (.string ⟨(Lib.join ws [32]).toArray⟩) ∧ ∃ p : Regrown, w'' = Sort.grow (redrawn w2 p.d) p.os := fun d os => Calls.regrown_of (join_any u1 ws _ _ (a2.below (below_regrown w2 d os) (Nat.le_refl _)) z1 z2)
  have cK : ∀ d os, Calls Tryd.prog 21 #[u2, .string ⟨#[32]⟩] (Sort.grow (redrawn w2 d) os) fun e w'' => e = .returned (.string ⟨(Lib.join ws [32]).toArray⟩) ∧ ∃ p : Regrown, w'' = Sort.grow (redrawn w2 p.d) p.os := fun d os => Calls.regrown_of (join_any u2 ws _ _ (x2.below (below_regrown w2 d os) (Nat.le_refl _)) z1 z2)
  have l1 : ∀ d os, (Sort.grow (redrawn w2 d) os).cell? ⟨g1, 1, none⟩ = some u1 := fun d os => cell_regrown a1 d os
  have l2 : ∀ d os, (Sort.grow (redrawn w2 d) os).cell? ⟨g2, 1, none⟩ = some u2 := fun d os => cell_regrown x1 d os
  obtain ⟨J, hJ⟩ : ∃ J, J = (⟨(Lib.join ws [32]).toArray⟩ : ByteArray) := ⟨_, rfl⟩
  rw [← hJ] at cJ cK
  obtain ⟨B1, y5, rfl, _⟩ := a2.len
  obtain ⟨B2, y6, rfl, _⟩ := x2.len
  clear r1 r2 a1 a2 x1 x2 hJ z1 z2 H1 H2 H12
  simp only [List.length_cons, List.length_nil, Nat.zero_add]
  go_wp2_with fail
  refine wp_region_quiet_below (by kernel_rfl) (by kernel_rfl) ?_
  repeat (go_big_quiet_step (first | with_reducible exact cA _ _ | with_reducible exact cJ _ _ | with_reducible exact cK _ _))
  refine wpQuiet_nil ?_
  intro _ hw'
  obtain ⟨⟨dq, osq⟩, hw''⟩ := hw'
  subst hw''
  go_wp2
  go_ret
  exact ⟨rfl, hb12.trans ((below_regrown w2 dq osq).mono hb12.size)⟩

end Go.Proofs.YtclcnmmhmjbjjaaDoor
