/- Values that lie one behind another. -/
import Derived.Test.YtjjcoblbiagflaaGreatMem
namespace Go.Proofs.YtjjcoblbiagflaaGreat
open Go.RowKit

/-- Values that lie one behind another. -/
def Lies (w : World) (A : Option Addr) (cs : List Value) : Prop := cs = [] ∨ ∃ g o, A = some ⟨g, o, none⟩ ∧ g < w.heap.size ∧ ∀ j v, cs[j]? = some v → w.cell? ⟨g, o + j, none⟩ = some v
theorem Lies.later {w w' : World} {A : Option Addr} {cs : List Value} (h : Lies w A cs) (hb : Below w.heap.size w w') : Lies w' A cs := by
  rcases h with h | ⟨g, o, ha, hg, hc⟩
  · exact .inl h
  · exact .inr ⟨g, o, ha, by have := hb.size; omega, fun j v hv => (hb.cell (p := ⟨g, _, none⟩) hg).trans (hc j v hv)⟩
theorem Lies.open {w : World} {A : Option Addr} {cs : List Value} (h : Lies w A cs) (h0 : 0 < cs.length) : ∃ g o, A = some ⟨g, o, none⟩ ∧ g < w.heap.size ∧ ∀ j v, cs[j]? = some v → w.cell? ⟨g, o + j, none⟩ = some v := by
  rcases h with rfl | h
  · simp at h0
  · exact h
theorem Lies.cell {w : World} {A : Option Addr} {cs : List Value} {k : Nat} {v : Value} (h : Lies w A cs) (hk : cs[k]? = some v) : ∃ g o, A = some ⟨g, o, none⟩ ∧ w.cell? ⟨g, o + k, none⟩ = some v := by
  obtain ⟨g, o, ha, _, hc⟩ := h.open (by have := (List.getElem?_eq_some_iff.1 hk).1; omega)
  exact ⟨g, o, ha, hc k v hk⟩
theorem lies_own {w : World} {base e n c : Nat} {A : Option Addr} {cs : List Value} (h : w.ownsRow base e 1 (.slice A n c) n cs) : Lies w A cs := by
  have hl : cs.length = n := by have := h.1; omega
  rcases h.2 with ⟨e1, rfl⟩ | ⟨g, cap, cur, e1, hb, hg, rest⟩
  · exact .inl (List.eq_nil_of_length_eq_zero hl)
  · injection e1 with e1 _ e3
    subst e1 e3
    exact .inr ⟨g, 0, rfl, heap_lt hg, fun j v hv => by rw [Nat.zero_add]; exact (h.cellAt j (by have := (List.getElem?_eq_some_iff.1 hv).1; omega)).trans hv⟩
theorem own_cell {w : World} {base e n k : Nat} {v x : Value} {cs : List Value} (h : w.ownsRow base e 1 v n cs) (hx : cs[k]? = some x) : ∃ g c, v = .slice (some ⟨g, 0, none⟩) n c ∧ n ≤ c ∧ w.cell? ⟨g, k, none⟩ = some x := by
  obtain ⟨Ad, c, rfl, hc, _⟩ := own_len h
  obtain ⟨g, rfl, hg⟩ := own_one h hx
  exact ⟨g, c, rfl, hc, hg⟩
theorem getD_of {α : Type} {l : List α} {k : Nat} {d x : α} (h : l[k]? = some x) : l.getD k d = x := by rw [List.getD_eq_getElem?_getD, h]; rfl
theorem map_getD {α : Type} (f : α → Value) (l : List α) (k : Nat) (d : α) (h : k < l.length) : (l.map f)[k]? = some (f (l.getD k d)) := by
  rw [List.getElem?_map, List.getElem?_eq_getElem h, List.getD_eq_getElem?_getD, List.getElem?_eq_getElem h]; rfl
theorem below_sorted {w w1 w2 : World} {p : Nat} (h : Below w.heap.size w w1) (hp : w.heap.size ≤ p) (g : w1.grownBy w2 (some p)) : Below w.heap.size w w2 :=
  ⟨g.os.trans h.os, g.tape.trans h.tape, g.output.trans h.output, Nat.le_trans h.size g.size, fun j hj => (g.block j (by have := h.size; omega) (fun e => by injection e with e; omega)).trans (h.block j hj)⟩
theorem count_snoc {α : Type} (p : α → Bool) (l : List α) (k : Nat) (x : α) (h : l[k]? = some x) : (l.take (k + 1)).countP p = (l.take k).countP p + (if p x = true then 1 else 0) := by
  have hk := (List.getElem?_eq_some_iff.1 h).1
  rw [List.take_succ_eq_append_getElem hk, List.countP_append, List.countP_singleton, (List.getElem?_eq_some_iff.1 h).2]
theorem count_take {α : Type} (p : α → Bool) (l : List α) (k : Nat) : (l.take k).countP p ≤ k := Nat.le_trans List.countP_le_length (List.length_take_le _ _)
theorem info_i : (Tryz.prog.info? 2).map (fun i => (i.zero, i.size, i.bytes)) = some (some (.int .i64 0), 1, 8) := by kernel_rfl
theorem info_n : (Tryz.prog.info? 3).map (fun i => (i.zero, i.size, i.bytes)) = some (some (.int .i64 0), 1, 8) := by kernel_rfl
theorem info_s : (Tryz.prog.info? 9).map (fun i => (i.zero, i.size, i.bytes)) = some (some (.string { data := #[] }), 1, 16) := by kernel_rfl
end Go.Proofs.YtjjcoblbiagflaaGreat
