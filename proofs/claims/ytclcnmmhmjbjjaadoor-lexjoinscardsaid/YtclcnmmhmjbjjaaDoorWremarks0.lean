/- LexRemarks' walk. -/
import Derived.Test.YtclcnmmhmjbjjaaDoorJoin
namespace Go.Proofs.YtclcnmmhmjbjjaaDoor
open Go.RowKit Go.Proofs.Lx

theorem app_list (a b : ByteArray) : (a ++ b).data.toList = a.data.toList ++ b.data.toList := by simp
set_option maxRecDepth 100000 in
set_option maxHeartbeats 4000000 in
theorem remarks_not (s0 s1 : ByteArray) (w : World) (hm : Mx w)
    (h : (1000 : Int) < (s0.size : Int) ∨ ((s0.size : Int) ≤ 1000 ∧ (1000 : Int) < (s1.size : Int)) ∨ ((s0.size : Int) ≤ 1000 ∧ (s1.size : Int) ≤ 1000 ∧ decide ((10 : UInt8) ∈ s0.data.toList) = true) ∨ ((s0.size : Int) ≤ 1000 ∧ (s1.size : Int) ≤ 1000 ∧ decide ((10 : UInt8) ∈ s0.data.toList) = false ∧ decide ((10 : UInt8) ∈ s1.data.toList) = true)) :
    Calls Tryd.prog 9 #[.string s0, .string s1] w fun e w' => e = .returned (.bool true) ∧ Below w.heap.size w w' := by
  have HM := Lib.hid hm
  clear hm
  have K0 := Lib.hid (cont_any s0)
  have K1 := Lib.hid (cont_any s1)
  obtain ⟨c0, hc0⟩ : ∃ c, c = decide ((10 : UInt8) ∈ s0.data.toList) := ⟨_, rfl⟩
  obtain ⟨c1, hc1⟩ : ∃ c, c = decide ((10 : UInt8) ∈ s1.data.toList) := ⟨_, rfl⟩
  rw [← hc0, ← hc1] at h
  rw [← hc0] at K0
  rw [← hc1] at K1
  clear hc0 hc1
  rcases h with h | ⟨h, h'⟩ | ⟨h, h', rfl⟩ | ⟨h, h', rfl, rfl⟩
  all_goals
    go_enter Tryd.func9, Tryd.ntmps9
    go_wp2_with (first
      | (go_at_call 22; refine (K0.out _).mono ?_; rintro e w' ⟨rfl, rfl⟩)
      | (go_at_call 22; refine (K1.out _).mono ?_; rintro e w' ⟨rfl, rfl⟩)
      | (go_at_call 10; refine (alive_any w HM.out).mono ?_; rintro e w1 ⟨rfl, hb1⟩))
    go_ret
    exact ⟨rfl, hb1⟩
end Go.Proofs.YtclcnmmhmjbjjaaDoor
