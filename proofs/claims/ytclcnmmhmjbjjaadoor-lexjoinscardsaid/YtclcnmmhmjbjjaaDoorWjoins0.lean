/- LexJoins: the texts that are too long, or wrong. -/
import Derived.Test.YtclcnmmhmjbjjaaDoorWremarks1
namespace Go.Proofs.YtclcnmmhmjbjjaaDoor
open Go.RowKit Go.Proofs.Lx

set_option maxRecDepth 100000 in
set_option maxHeartbeats 4000000 in
theorem joins_long (s0 s1 : ByteArray) (w : World) (hm : Mx w) (h : (2000 : Int) < (s0.size : Int) ∨ ((s0.size : Int) ≤ 2000 ∧ (2000 : Int) < (s1.size : Int))) :
    Calls Tryd.prog 8 #[.string s0, .string s1] w fun e w' => e = .returned (.bool true) ∧ Below w.heap.size w w' := by
  have HM := Lib.hid hm
  clear hm
  rcases h with h | ⟨h, h'⟩
  all_goals
    go_enter Tryd.func8, Tryd.ntmps8
    go_wp2_with (go_at_call 10; refine (alive_any w HM.out).mono ?_; rintro e w1 ⟨rfl, hb1⟩)
    go_ret
    exact ⟨rfl, hb1⟩
set_option maxRecDepth 100000 in
set_option maxHeartbeats 4000000 in
theorem joins_wrong (s0 s1 : ByteArray) (w : World) (hm : Mx w) (h0 : (s0.size : Int) ≤ 2000) (h1 : (s1.size : Int) ≤ 2000) (L M : List Ln) (n k n' k' : Nat) (gl : Gives s0 L n k) (gr : Gives s1 M n' k') (h : ((k : Int) != 0) = true ∨ (((k : Int) != 0) = false ∧ ((k' : Int) != 0) = true)) :
    Calls Tryd.prog 8 #[.string s0, .string s1] w fun e w' => e = .returned (.bool true) ∧ Below w.heap.size w w' := by
  have HM := Lib.hid hm
  have KL := Lib.hid gl
  have KR := Lib.hid gr
  have d0 : decide ((2000 : Int) < (s0.size : Int)) = false := decide_eq_false (by omega)
  have d1 : decide ((2000 : Int) < (s1.size : Int)) = false := decide_eq_false (by omega)
  clear hm gl gr
  rcases h with b1 | ⟨b1, b2⟩
  all_goals
    go_enter Tryd.func8, Tryd.ntmps8
    go_wp2_with fail
    refine (KL.out w HM.out).mono ?_
    rintro e w1 ⟨v1, hv1, rfl, hb1⟩
    clear hv1
    go_wp2_with fail
    refine (KR.out w1 (HM.out.below hb1 (Nat.le_refl _))).mono ?_
    rintro e w2 ⟨v2, hv2, rfl, hb2⟩
    clear hv2
    have hb12 : Below w.heap.size w w2 := hb1.trans (hb2.mono hb1.size)
    have HM2 := Lib.hid (HM.out.below hb12 (Nat.le_refl _))
    go_wp2_with fail
    refine (alive_any w2 HM2.out).mono ?_
    rintro e w3 ⟨rfl, hb3⟩
    go_wp2
    go_ret
    exact ⟨rfl, hb12.trans (hb3.mono hb12.size)⟩
end Go.Proofs.YtclcnmmhmjbjjaaDoor
