/- LexLines' walk. -/
import Derived.Test.YtclcnmmhmjbjjaaDoorSame
import Derived.Test.YtclcnmmhmjbjjaaDoorAlive
import Derived.Test.YtclcnmmhmjbjjaaDoorSizes
namespace Go.Proofs.YtclcnmmhmjbjjaaDoor
open Go.RowKit Go.Proofs.Lx

set_option maxRecDepth 100000 in
set_option maxHeartbeats 4000000 in
theorem walk_lexLines (s0 : ByteArray) (w : World) (w0 : s0.size ≤ maxLen) (hm : Mx w) :
    Calls Tryd.prog 3 #[.string s0] w fun e w' => e = .returned (.bool true) ∧ Below w.heap.size w w' := by
  unfold maxLen at w0
  have HM := Lib.hid hm
  clear hm
  by_cases hl : (70000 : Int) < (s0.size : Int)
  · go_enter Tryd.func3, Tryd.ntmps3
    go_wp2_with (go_at_call 10; refine (alive_any w HM.out).mono ?_; rintro e w1 ⟨rfl, hb1⟩)
    go_ret
    exact ⟨rfl, hb1⟩
  · have HZ := Lib.hid (out_sz s0.data.toList)
    go_enter Tryd.func3, Tryd.ntmps3
    go_wp2_with (first
      | (go_at_call 11; refine (lines_any s0 w (by omega) HM.out).mono ?_; rintro e w1 ⟨v1, hv1, rfl, hb1⟩; have H1 := Lib.hid hv1; clear hv1)
      | (go_at_call 12; refine (rlines_any s0 w1 (by omega)).mono ?_; rintro e w2 ⟨v2, hv2, rfl, hb2⟩; have H2 := Lib.hid hv2; clear hv2)
      | (go_at_call 10; refine (alive_any w2 ((HM.out.below hb1 (Nat.le_refl _)).below hb2 (Nat.le_refl _))).mono ?_; rintro e w3 ⟨rfl, hb3⟩)
      | (go_at_call 13; refine (same_any v1 v2 w3 _ _ _ HZ.out.1 HZ.out.2 ((H1.out.below hb2 (Nat.le_refl _)).below hb3 (Nat.le_refl _)) (H2.out.below hb3 (Nat.le_refl _))).mono ?_; rintro e w4 ⟨rfl, hb4⟩))
    go_ret
    have s1 := hb1.size
    have s2 := hb2.size
    have s3 := hb3.size
    exact ⟨rfl, ((hb1.trans (hb2.mono s1)).trans (hb3.mono (by omega))).trans (hb4.mono (by omega))⟩
end Go.Proofs.YtclcnmmhmjbjjaaDoor
