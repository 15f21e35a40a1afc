/- LexRemarks' walk. -/
import Derived.Test.YtclcnmmhmjbjjaaDoorWremN
import Derived.Test.YtclcnmmhmjbjjaaDoorWremO
import Derived.Test.YtclcnmmhmjbjjaaDoorWremE
import Derived.BigQuiet
namespace Go.Proofs.YtclcnmmhmjbjjaaDoor
open Go.RowKit Go.Proofs.Lx


theorem remarks_main (s0 s1 : ByteArray) (w : World) (hm : Mx w) (h0 : (s0.size : Int) ≤ 1000) (h1 : (s1.size : Int) ≤ 1000) (k0 : (10 : UInt8) ∉ s0.data.toList) (k1 : (10 : UInt8) ∉ s1.data.toList) :
    Calls Tryd.prog 9 #[.string s0, .string s1] w fun e w' => e = .returned (.bool true) ∧ Below w.heap.size w w' := by
  have gl : Gives s0 (outOf s0.data.toList).1 (outOf s0.data.toList).2.1 (outOf s0.data.toList).2.2 := fun w h => lines_any s0 w (by omega) h
  have gr : Gives (s0 ++ ⟨#[35]⟩ ++ s1) (outOf s0.data.toList).1 (outOf s0.data.toList).2.1 (outOf s0.data.toList).2.2 := fun w h => remark_lines s0 s1 w h (by omega) (by omega) k0 k1
  have HO := out_one s0.data.toList k0
  have HZ := out_sz s0.data.toList
  have HJ := out_join s0.data.toList
  obtain ⟨⟨L, n, k⟩, ho⟩ : ∃ o, o = outOf s0.data.toList := ⟨_, rfl⟩
  rw [← ho] at gl gr HO HZ HJ
  by_cases hk : (k : Int) = 0
  · obtain rfl : k = 0 := by omega
    rcases HO with hL | ⟨ws, hL⟩
    · obtain rfl : L = [] := hL
      exact remarks_nil s0 s1 w hm h0 h1 k0 k1 n gl gr
    · obtain rfl : L = [(1, ws)] := hL
      exact remarks_one s0 s1 w hm h0 h1 k0 k1 n ws (HZ.2 0 1 ws rfl) (HJ 0 1 ws rfl) gl gr
  · exact remarks_err s0 s1 w hm h0 h1 k0 k1 L n k hk gl gr
theorem walk_lexRemarks (s0 s1 : ByteArray) (w : World) (_ : s0.size ≤ maxLen) (_ : s1.size ≤ maxLen) (hm : Mx w) :
    Calls Tryd.prog 9 #[.string s0, .string s1] w fun e w' => e = .returned (.bool true) ∧ Below w.heap.size w w' := by
  by_cases h0 : (1000 : Int) < (s0.size : Int)
  · exact remarks_not s0 s1 w hm (.inl h0)
  · by_cases h1 : (1000 : Int) < (s1.size : Int)
    · exact remarks_not s0 s1 w hm (.inr (.inl ⟨by omega, h1⟩))
    · by_cases k0 : (10 : UInt8) ∈ s0.data.toList
      · exact remarks_not s0 s1 w hm (.inr (.inr (.inl ⟨by omega, by omega, decide_eq_true k0⟩)))
      · by_cases k1 : (10 : UInt8) ∈ s1.data.toList
        · exact remarks_not s0 s1 w hm (.inr (.inr (.inr ⟨by omega, by omega, decide_eq_false k0, decide_eq_true k1⟩)))
        · exact remarks_main s0 s1 w hm (by omega) (by omega) k0 k1
end Go.Proofs.YtclcnmmhmjbjjaaDoor
