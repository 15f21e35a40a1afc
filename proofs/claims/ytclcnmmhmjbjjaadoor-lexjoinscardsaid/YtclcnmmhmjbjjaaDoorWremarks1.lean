/- LexRemarks' walk. -/
import Derived.Test.YtclcnmmhmjbjjaaDoorWremarks0
import Derived.BigQuiet
namespace Go.Proofs.YtclcnmmhmjbjjaaDoor
open Go.RowKit Go.Proofs.Lx

theorem remark_lines (s0 s1 : ByteArray) (w : World) (hm : Mx w) (h0 : s0.size ≤ 1000) (h1 : s1.size ≤ 1000) (k0 : (10 : UInt8) ∉ s0.data.toList) (k1 : (10 : UInt8) ∉ s1.data.toList) :
    Calls Tryd.prog 11 #[.string (s0 ++ ⟨#[35]⟩ ++ s1)] w fun e w' => LinesPost 41 w s0.data.toList e w' := by
  have e : outOf (s0 ++ ⟨#[35]⟩ ++ s1).data.toList = outOf s0.data.toList := by
    rw [app_list, app_list]
    have := out_remark s0.data.toList s1.data.toList k0 k1 (by rw [len_eq]; exact h0) (by rw [len_eq]; exact h1)
    simpa using this
  have := lines_any (s0 ++ ⟨#[35]⟩ ++ s1) w (by rw [ByteArray.size_append, ByteArray.size_append, show (⟨#[35]⟩ : ByteArray).size = 1 from rfl]; omega) hm
  unfold LinesPost at this ⊢
  rw [e] at this
  exact this
/-- What Lines answers, its answer's parts by name. -/
def Gives (s : ByteArray) (L : List Ln) (n k : Nat) : Prop := ∀ w, Mx w → Calls Tryd.prog 11 #[.string s] w fun e w' => ∃ v, IsLines 41 w' w.heap.size v L ∧ e = .returned (.tuple #[v, .int .i64 (n : Nat), .int .i64 (k : Nat)]) ∧ Below w.heap.size w w'

end Go.Proofs.YtclcnmmhmjbjjaaDoor
