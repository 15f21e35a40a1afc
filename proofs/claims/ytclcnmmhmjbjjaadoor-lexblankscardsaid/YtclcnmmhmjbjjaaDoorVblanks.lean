/- LexBlanks' walk, of what comes in. -/
import Derived.Test.YtclcnmmhmjbjjaaDoorWblanks
import Derived.Test.YtclcnmmhmjbjjaaDoorOblanks
namespace Go.Proofs.YtclcnmmhmjbjjaaDoor
open Go.RowKit Go.Proofs.Lx

theorem walk_lexBlanks (v0 v1 : Value) (w : World) (h0 : In0 w v0) (h1 : In1 w v1) (hm : Mx w) (ht : Pow w) :
    Calls Tryd.prog 6 #[v0, v1] w fun e w' => e = .returned (.bool true) ∧ Below w.heap.size w w' := by
  obtain ⟨ls, h0⟩ := h0
  obtain ⟨bs, h1⟩ := h1
  exact blanks_any v0 v1 ls bs w hm ht h0 h1
end Go.Proofs.YtclcnmmhmjbjjaaDoor
