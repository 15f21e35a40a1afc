/- LexRemarks' walk. -/
import Derived.Test.YtclcnmmhmjbjjaaDoorWremarks1
import Derived.BigQuiet
namespace Go.Proofs.YtclcnmmhmjbjjaaDoor
open Go.RowKit Go.Proofs.Lx


set_option maxRecDepth 100000 in
set_option maxHeartbeats 8000000 in
theorem remarks_nil (s0 s1 : ByteArray) (w : World) (hm : Mx w) (h0 : (s0.size : Int) ≤ 1000) (h1 : (s1.size : Int) ≤ 1000) (k0 : (10 : UInt8) ∉ s0.data.toList) (k1 : (10 : UInt8) ∉ s1.data.toList) (n : Nat) (gl : Gives s0 [] n 0) (gr : Gives (s0 ++ ⟨#[35]⟩ ++ s1) [] n 0) :
    Calls Tryd.prog 9 #[.string s0, .string s1] w fun e w' => e = .returned (.bool true) ∧ Below w.heap.size w w' := by
  have HM := Lib.hid hm
  have K0 : Hid (∀ w, Calls Tryd.prog 22 #[.string s0, .string ⟨#[10]⟩] w fun e w' => e = .returned (.bool false) ∧ w = w') := fun w => by
    have := cont_any s0 w
    rw [decide_eq_false k0] at this
    exact this
  have K1 : Hid (∀ w, Calls Tryd.prog 22 #[.string s1, .string ⟨#[10]⟩] w fun e w' => e = .returned (.bool false) ∧ w = w') := fun w => by
    have := cont_any s1 w
    rw [decide_eq_false k1] at this
    exact this
  have KL := Lib.hid gl
  have KR := Lib.hid gr
  have d0 : decide ((1000 : Int) < (s0.size : Int)) = false := decide_eq_false (by omega)
  have d1 : decide ((1000 : Int) < (s1.size : Int)) = false := decide_eq_false (by omega)
  clear hm k0 k1 gl gr
  skip
  go_enter Tryd.func9, Tryd.ntmps9
  go_wp2_with (first
    | (go_at_call 22; refine (K0.out _).mono ?_; rintro e w' ⟨rfl, rfl⟩)
    | (go_at_call 22; refine (K1.out _).mono ?_; rintro e w' ⟨rfl, rfl⟩))
  refine (KL.out w HM.out).mono ?_
  rintro e w1 ⟨v1, hv1, rfl, hb1⟩
  have H1 := Lib.hid hv1
  obtain ⟨A1, c1, rfl, _⟩ := hv1.len
  clear hv1
  go_wp2_with fail
  refine (KR.out w1 (HM.out.below hb1 (Nat.le_refl _))).mono ?_
  rintro e w2 ⟨v2, hv2, rfl, hb2⟩
  have H2 := Lib.hid hv2
  obtain ⟨A2, c2, rfl, _⟩ := hv2.len
  have H12 := Lib.hid (H1.out.below hb2 (Nat.le_refl _))
  clear hv2
  have HM2 := Lib.hid ((HM.out.below hb1 (Nat.le_refl _)).below hb2 (Nat.le_refl _))
  have hb12 : Below w.heap.size w w2 := hb1.trans (hb2.mono hb1.size)
  clear K0 K1 KL KR d0 d1 h0 h1
  simp only [List.length_nil]
  have cA : ∀ d os, Calls Tryd.prog 10 #[] (Sort.grow (redrawn w2 d) os) fun e w'' => e = .returned (.bool true) ∧ ∃ p : Regrown, w'' = Sort.grow (redrawn w2 p.d) p.os := fun d os => Calls.regrown_of (alive_any _ (HM2.out.below (below_regrown w2 d os) (Nat.le_refl _)))
  go_wp2_with fail
  refine wp_region_quiet_below (by kernel_rfl) (by kernel_rfl) ?_
  repeat (go_big_quiet_step (exact cA _ _))
  refine wpQuiet_nil ?_
  intro _ hw'
  obtain ⟨⟨dq, osq⟩, hw''⟩ := hw'
  subst hw''
  go_wp2
  go_ret
  exact ⟨rfl, hb12.trans ((below_regrown w2 dq osq).mono hb12.size)⟩

end Go.Proofs.YtclcnmmhmjbjjaaDoor
