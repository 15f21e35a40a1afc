/- What Rank and Spread answer. -/
import Derived.Test.YtcmmhgalnfleoaaLie
import Derived.Test.YtcmmhgalnfleoaaMdm
import Derived.Lib.Hide
namespace Go.Proofs.Ytcmmhgalnfleoaa
open Go.RowKit

theorem lies_new (w : World) (cs : List Value) (t : TypeId) : Lies (w.alloc (.cells cs.toArray t)) (some ⟨w.heap.size, 0, none⟩) cs := by
  refine .inr ⟨_, _, rfl, by simp, fun j v hv => ?_⟩
  rw [cell_of_row _ _ _ _ _ _ (heap_alloc_new w _)]
  simpa using hv
theorem mid_ex : ([5, 1, 9].mergeSort leI).getD 1 0 = 5 := (srt_at totI [5, 1, 9] 1 0 (by decide)).unique totI ⟨by decide, by decide⟩
theorem mid_exs : ([[53], [49], [57], [55]].mergeSort leS).getD 1 [] = [53] := (srt_at totS [[53], [49], [57], [55]] 1 [] (by decide)).unique totS ⟨by decide, by decide⟩
end Go.Proofs.Ytcmmhgalnfleoaa
