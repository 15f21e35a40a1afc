/- Stores that a law makes, in a list of its own. -/
import Derived.Test.YtcmmhgalnfleoaaOpen
namespace Go.Proofs.Ytcmmhgalnfleoaa
open Go.RowKit

theorem info_p : (Try.prog.info? 41).map (fun i => (i.zero, i.size, i.bytes)) = some (some (.pointer none), 1, 8) := by kernel_rfl
/-- A store stays where a row of pointers grows. -/
theorem St.grown {w w' : World} {base sb c : Nat} {l : List Sm} {r : Option Nat} (h : St w base sb c l) (g : w.grownBy w' r) (hr : ∀ p, r = some p → ∃ cur, w.heap[p]? = some (.cells cur 41 (0, 0))) : St w' base sb c l := by
  obtain ⟨rb, v, h⟩ := h
  have no : ∀ (p : Nat) (cs : Array Value) (t : TypeId), w.heap[p]? = some (.cells cs t (0, 0)) → t ≠ 41 → r ≠ some p := fun p cs t hp ht e => by
    obtain ⟨cur, hc⟩ := hr p e
    rw [hp] at hc
    injection hc with hc
    injection hc with _ hc _
    exact ht hc
  refine ⟨rb, v, (g.block sb (heap_lt h.blk) (fun e => no _ _ _ h.blk (by decide) e.symm)).trans h.blk, ?_, h.own⟩
  refine h.ring.two (b' := w.heap.size) (r := r) ⟨g.os, g.tape, g.output, g.size, fun j hj _ hk => g.block j hj hk⟩ (by have := h.ring.lt; omega) (no _ _ _ h.ring.blk (by decide)) (fun e => ?_) (fun p hp => ?_)
  · have := (own_lt h.ring.row e).2.1; omega
  · obtain ⟨_, _, cur, hc⟩ := own_lt h.ring.row hp
    exact no _ _ _ hc (by decide)
theorem Src.grown {w w' : World} {P : Option Addr} {L : List Sm} {r : Option Nat} (h : Src w P L) (g : w.grownBy w' r) (hr : ∀ p, r = some p → ∃ cur, w.heap[p]? = some (.cells cur 41 (0, 0))) : Src w' P L := by
  rcases h with h | ⟨base, sb, c, e, h⟩
  · exact .inl h
  · exact .inr ⟨base, sb, c, e, h.grown g hr⟩

/-- A row of the law's own that holds stores which keep so much. -/
structure Made (w : World) (base : Nat) (v : Value) (Ps : List (Option Addr)) (Ls : List (List Sm)) : Prop where
  row : w.ownsRow base 41 1 v Ls.length (Ps.map Value.pointer)
  src : ∀ (j : Nat) P L, Ps[j]? = some P → Ls[j]? = some L → Src w P L
section
variable {w w' : World} {base : Nat} {v : Value} {Ps : List (Option Addr)} {Ls : List (List Sm)}
theorem Made.below (h : Made w base v Ps Ls) (hb : Below w.heap.size w w') : Made w' base v Ps Ls := ⟨own_below h.row hb (Nat.le_refl _), fun j P L h1 h2 => (h.src j P L h1 h2).below hb⟩
theorem Made.len (h : Made w base v Ps Ls) : Ps.length = Ls.length := by have := h.row.1; simpa using this
theorem Made.nil (w : World) (base : Nat) : Made w base (.slice none 0 0) [] [] := ⟨World.ownsRow_nil _ _ _ _, fun j P L h => by simp at h⟩
theorem Made.snoc {P : Option Addr} {L : List Sm} {v' : Value} (h : Made w base v Ps Ls) (hs : Src w P L) (ho : w'.ownsRow base 41 1 v' (Ls.length + 1) (Ps.map Value.pointer ++ [.pointer P])) (g : w.grownBy w' v.ownBlock) : Made w' base v' (Ps ++ [P]) (Ls ++ [L]) := by
  have hr : ∀ p, v.ownBlock = some p → ∃ cur, w.heap[p]? = some (.cells cur 41 (0, 0)) := fun p hp => by
    obtain ⟨_, _, cur, hc⟩ := own_lt h.row hp
    exact ⟨_, hc⟩
  refine ⟨by rw [List.length_append, List.map_append]; exact ho, fun j Q M h1 h2 => ?_⟩
  have hl := h.len
  by_cases hj : j < Ps.length
  · rw [List.getElem?_append_left hj] at h1
    rw [List.getElem?_append_left (by omega)] at h2
    exact (h.src j Q M h1 h2).grown g hr
  · rw [List.getElem?_append_right (by omega)] at h1
    rw [List.getElem?_append_right (by omega), ← hl] at h2
    have hj0 : j - Ps.length = 0 := by
      have := (List.getElem?_eq_some_iff.1 h1).1
      simp at this; omega
    rw [hj0] at h1 h2
    simp at h1 h2
    subst h1 h2
    exact hs.grown g hr
theorem Made.sts {A : Option Addr} {n c : Nat} (h : Made w base (.slice A n c) Ps Ls) (hn : Ls.length = n) (hi : ∀ L ∈ Ls, ∀ p ∈ L, p.In) : Sts w A Ls := fun k L hk => by
  subst hn
  have hlt := (List.getElem?_eq_some_iff.1 hk).1
  have hl := h.len
  obtain ⟨P, hP⟩ : ∃ P, Ps[k]? = some P := ⟨Ps[k]'(by omega), List.getElem?_eq_getElem _⟩
  obtain ⟨g, rfl, hc⟩ := own_one h.row (k := k) (x := .pointer P) (by rw [List.getElem?_map, hP]; rfl)
  exact ⟨g, 0, P, rfl, cell_lt hc, by rw [Nat.zero_add]; exact hc, h.src k P L hP hk, hi L (List.mem_of_getElem? hk)⟩
end
/-- The lists keep at most eight. -/
theorem last8_snoc {L : List Sm} {j : Nat} {p : Sm} (hp : L[j]? = some p) : push8 (last8 (L.take j)) p = last8 (L.take (j + 1)) := by rw [push8_last, take_snoc hp]
end Go.Proofs.Ytcmmhgalnfleoaa
