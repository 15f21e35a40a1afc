/- Three arguments in blocks of the call's own: what their cells hold. -/
import Derived.Test.YtcmmhgalnfleoaaSm
import Derived.Lib.SmallJoins
namespace Go.Proofs.Ytcmmhgalnfleoaa
open Go.RowKit Go.Joins

theorem box_cell {w w' : World} {cs : Array Value} {t : TypeId} (hb : Below (w.heap.size + 1) (w.alloc (.cells cs t)) w') (k : Nat) : w'.cell? ⟨w.heap.size, k, none⟩ = cs[k]? := by
  rw [hb.cell (p := ⟨w.heap.size, k, none⟩) (by show w.heap.size < w.heap.size + 1; omega)]
  exact cell_of_row _ _ _ _ _ _ (heap_alloc_new w _)
theorem box3 {w W : World} {c0 c1 c2 : Array Value} {t0 t1 t2 : TypeId} (hW : W = ((w.alloc (.cells c0 t0)).alloc (.cells c1 t1)).alloc (.cells c2 t2)) :
    (∀ k, W.cell? ⟨w.heap.size, k, none⟩ = c0[k]?) ∧ (∀ k, W.cell? ⟨w.heap.size + 1, k, none⟩ = c1[k]?) ∧ (∀ k, W.cell? ⟨w.heap.size + 1 + 1, k, none⟩ = c2[k]?) ∧ Below w.heap.size w W := by
  have s1 : (w.alloc (.cells c0 t0)).heap.size = w.heap.size + 1 := by simp
  have s2 : ((w.alloc (.cells c0 t0)).alloc (.cells c1 t1)).heap.size = w.heap.size + 1 + 1 := by simp
  subst hW
  refine ⟨fun k => ?_, fun k => ?_, fun k => ?_, ?_⟩
  · exact box_cell (((Below.refl _ _).alloc (by rw [s1]; exact Nat.le_refl _) _).alloc (by rw [s2]; omega) _) k
  · have := box_cell (w := w.alloc (.cells c0 t0)) (cs := c1) (t := t1) ((Below.refl _ _).alloc (by rw [s1, s2]; exact Nat.le_refl _) (.cells c2 t2)) k
    rwa [s1] at this
  · have := box_cell (w := (w.alloc (.cells c0 t0)).alloc (.cells c1 t1)) (cs := c2) (t := t2) (Below.refl _ _) k
    rwa [s2] at this
  · exact ((bel_alloc _ _).alloc (by rw [s1]; omega) _).alloc (by rw [s2]; omega) _
end Go.Proofs.Ytcmmhgalnfleoaa
