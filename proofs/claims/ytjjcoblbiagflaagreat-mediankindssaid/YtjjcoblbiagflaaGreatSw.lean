/- Rows that are sorted in their place: a block that holds numbers, each by its encoding. Over no program. -/
import Derived.Test.YtjjcoblbiagflaaGreatProg
import Derived.WalkKit
import Derived.WalkSpells
import Derived.Below
import Derived.Laws.Tables
import Derived.Lib.Hide
import Derived.Deep.Draws
import Derived.Sort.Lot0
namespace Go.Proofs.YtjjcoblbiagflaaGreat
open Go.RowKit

/-- All blocks but one are as they were. -/
structure But (b : Nat) (w w' : World) : Prop where
  os : w'.os = w.os
  tape : w'.tape = w.tape
  output : w'.output = w.output
  size : w.heap.size ≤ w'.heap.size
  block : ∀ j, j < w.heap.size → j ≠ b → w'.heap[j]? = w.heap[j]?
theorem But.of_below {b : Nat} {w w' : World} (h : Below w.heap.size w w') : But b w w' := ⟨h.os, h.tape, h.output, h.size, fun j hj _ => h.block j hj⟩
theorem But.refl (b : Nat) (w : World) : But b w w := But.of_below (Below.refl _ _)
theorem But.trans {b : Nat} {u v w : World} (h : But b u v) (g : But b v w) : But b u w := ⟨g.os.trans h.os, g.tape.trans h.tape, g.output.trans h.output, Nat.le_trans h.size g.size, fun j hj hn => (g.block j (by have := h.size; omega) hn).trans (h.block j hj hn)⟩
theorem But.below {b B : Nat} {w w' : World} (h : But b w w') (h1 : B ≤ w.heap.size) (h2 : B ≤ b) : Below B w w' := ⟨h.os, h.tape, h.output, h.size, fun j hj => h.block j (by omega) (by omega)⟩
theorem But.setCell {b : Nat} {u w : World} (h : But b u w) (o : Nat) (v : Value) : But b u (w.setCell ⟨b, o, none⟩ v) :=
  ⟨h.os, h.tape, h.output, by simpa [World.setCell] using h.size, fun j hj hn => by rw [Below.heap_setCell _ _ _ _ (by exact hn)]; exact h.block j hj hn⟩
theorem below_draws {w : World} (n : Nat) : Below w.heap.size w (w.drewN n) := ⟨rfl, rfl, rfl, Nat.le_refl _, fun _ _ => rfl⟩
theorem bel_trans {w wi wj : World} (h : Below w.heap.size w wi) (g : Below wi.heap.size wi wj) : Below w.heap.size w wj := h.trans (g.mono h.size)
theorem bel_alloc (w : World) (o : Obj) : Below w.heap.size w (w.alloc o) := (Below.refl _ _).alloc (Nat.le_refl _) _
theorem But.drews {b : Nat} {u w : World} (h : But b u w) (n : Nat) : But b u (w.drewN n) := h.trans (But.of_below (below_draws n))
theorem But.drew {b : Nat} {u w : World} (h : But b u w) : But b u w.drew := h.trans (But.of_below (below_draws 1))
theorem heap_setCell_same (w : World) (b o : Nat) (v : Value) (cs : Array Value) (t : TypeId) (fr : Nat × Nat) (h : w.heap[b]? = some (.cells cs t fr)) : (w.setCell ⟨b, o, none⟩ v).heap[b]? = some (.cells (cs.setIfInBounds o v) t fr) := by
  simp only [World.setCell, Array.getElem?_modify, if_true]
  rw [h]
  rfl
theorem heap_lt {g : Nat} {w : World} {o : Obj} (hg : w.heap[g]? = some o) : g < w.heap.size := (Array.getElem?_eq_some_iff.1 hg).1

/-- Block B holds the numbers d, and behind them the cells tl. -/
def Rw {α : Type} (enc : α → Value) (T : TypeId) (tl : Array Value) (w : World) (B : Nat) (d : Array α) : Prop := w.heap[B]? = some (.cells (d.map enc ++ tl) T (0, 0))
section
variable {α : Type} {enc : α → Value} {T : TypeId} {tl : Array Value} {w w' : World} {B : Nat} {d : Array α}
theorem Rw.cell [Inhabited α] (h : Rw enc T tl w B d) (i : Nat) (hi : i < d.size) : w.cell? ⟨B, i, none⟩ = some (enc d[i]!) := by
  rw [cell_of_row _ _ i _ _ _ h, Array.getElem?_append_left (by simpa using hi)]
  simp [hi]
theorem Rw.frozen (h : Rw enc T tl w B d) (j : Nat) : w.frozen? ⟨B, j, none⟩ = false := by
  unfold Rw at h
  simp [World.frozen?, h]
theorem Rw.lt (h : Rw enc T tl w B d) : B < w.heap.size := heap_lt h
theorem Rw.below (h : Rw enc T tl w B d) (hb : Below w.heap.size w w') : Rw enc T tl w' B d := (hb.block B (heap_lt h)).trans h
theorem Rw.but {c : Nat} (h : Rw enc T tl w B d) (hb : But c w w') (hc : B ≠ c) : Rw enc T tl w' B d := (hb.block B (heap_lt h) hc).trans h
theorem Rw.set (h : Rw enc T tl w B d) (i : Nat) (hi : i < d.size) (x : α) : Rw enc T tl (w.setCell ⟨B, i, none⟩ (enc x)) B (d.setIfInBounds i x) := by
  have := heap_setCell_same w B i (enc x) _ _ _ h
  unfold Rw
  rw [this, Array.setIfInBounds_append_left (by simpa using hi), Array.map_setIfInBounds]
theorem Rw.swp [Inhabited α] (h : Rw enc T tl w B d) (i j : Nat) (hi : i < d.size) (hj : j < d.size) : Rw enc T tl ((w.setCell ⟨B, i, none⟩ (enc d[j]!)).setCell ⟨B, j, none⟩ (enc d[i]!)) B (Sort.swp d i j) :=
  (h.set i hi _).set j (by simpa using hj) _
theorem Rw.swapped [Inhabited α] (h : Rw enc T tl w B d) (i j : Nat) (hi : i < d.size) (hj : j < d.size) : Rw enc T tl ((w.setCell ⟨B, i, none⟩ (enc d[j]!)).setCell ⟨B, j, none⟩ (enc d[i]!)).drew B (Sort.swp d i j) ∧ But B w ((w.setCell ⟨B, i, none⟩ (enc d[j]!)).setCell ⟨B, j, none⟩ (enc d[i]!)).drew :=
  ⟨h.swp i j hi hj, (((But.refl B w).setCell i _).setCell j _).drew⟩
/-- What the second store finds. -/
theorem Rw.third [Inhabited α] (h : Rw enc T tl w B d) (i j : Nat) (hi : i < d.size) (hj : j < d.size) (x : α) : ∃ v, (w.setCell ⟨B, i, none⟩ (enc x)).cell? ⟨B, j, none⟩ = some v :=
  ⟨_, (h.set i hi x).cell j (by simpa using hj)⟩
end
end Go.Proofs.YtjjcoblbiagflaaGreat
