/- alive: the document's example. -/
import Derived.Test.YtclcnmmhmjbjjaaDoorLines
namespace Go.Proofs.YtclcnmmhmjbjjaaDoor
open Go.RowKit Go.Proofs.Lx

theorem example_out : outOf [97, 32, 32, 98, 32, 35, 32, 99, 10, 10, 32, 55] = ([(1, [[97], [98]]), (3, [[55]])], 0, 0) := by decide +kernel
theorem example_lines (w : World) (hm : Mx w) :
    Calls Tryd.prog 11 #[.string ⟨#[97, 32, 32, 98, 32, 35, 32, 99, 10, 10, 32, 55]⟩] w fun e w' => ∃ v, IsLines 41 w' w.heap.size v [(1, [[97], [98]]), (3, [[55]])] ∧ e = .returned (.tuple #[v, .int .i64 0, .int .i64 0]) ∧ Below w.heap.size w w' := by
  refine (lines_any ⟨#[97, 32, 32, 98, 32, 35, 32, 99, 10, 10, 32, 55]⟩ w (by decide) hm).mono ?_
  rintro e w' ⟨v, h1, h2, h3⟩
  have e0 : outOf (⟨#[97, 32, 32, 98, 32, 35, 32, 99, 10, 10, 32, 55]⟩ : ByteArray).data.toList = _ := example_out
  rw [e0] at h1 h2
  exact ⟨v, h1, h2, h3⟩

set_option maxRecDepth 100000 in
set_option maxHeartbeats 4000000 in
theorem alive_any (w : World) (hm : Mx w) :
    Calls Tryd.prog 10 #[] w fun e w' => e = .returned (.bool true) ∧ Below w.heap.size w w' := by
  have HM := Lib.hid hm
  clear hm
  go_enter Tryd.func10, Tryd.ntmps10
  go_wp2_with (go_at_call 11; refine (example_lines w HM.out).mono ?_; rintro e w1 ⟨v, hv, rfl, hb1⟩; obtain ⟨g, c, rfl, hc, hg, hk⟩ := hv.at_ (by decide); obtain ⟨a1, u1, a2, a3⟩ := hk 0 1 [[97], [98]] rfl; obtain ⟨d1, u2, d2, d3⟩ := hk 1 3 [[55]] rfl; obtain ⟨g1, c1, rfl, f1, f2, f3⟩ := a3.at_ (by decide); obtain ⟨g2, c2, rfl, k1, k2, k3⟩ := d3.at_ (by decide); have x1 := f3 1 [98] rfl; have x2 := k3 0 [55] rfl; clear f3 k3 hk hv a3 d3; simp only [List.length_cons, List.length_nil, Nat.zero_add, Nat.mul_zero, Nat.mul_one, Nat.reduceAdd, Str] at a1 a2 d1 d2 x1 x2 hc f1 k1 ⊢)
  go_ret
  exact ⟨rfl, hb1⟩
end Go.Proofs.YtclcnmmhmjbjjaaDoor
