/- A queue of texts of the walk's own, and another one beside it. -/
import Derived.Test.YtebdhleggbccdaaAlive
import Derived.Test.YtebdhleggbccdaaArgs
namespace Go.Proofs.Ytebdhleggbccdaa
open Go.RowKit Go.Maps

theorem atQ_put {k : ByteArray} {a t s : Int} {L : List (En ByteArray)} (h : Okq s (putQ k a t L)) : atQ k (putQ k a t L) = some a := atQ_some h (e := (k, a, t)) (by simp [putQ]) rfl
theorem atQ_drop (k : ByteArray) (L : List (En ByteArray)) : atQ k (dropQ k L) = none := atQ_none fun _ he => (mem_drop.1 he).2
theorem length_dropQ (k : ByteArray) (L : List (En ByteArray)) : (dropQ k L).length ≤ L.length := List.length_filter_le _ _
theorem length_putQ (k : ByteArray) (a t : Int) (L : List (En ByteArray)) : (putQ k a t L).length ≤ L.length + 1 := by
  have := length_dropQ k L
  unfold putQ
  rw [List.length_append, List.length_singleton]
  omega
/-- A queue of the walk's own. -/
structure Oq (w wi : World) (b m s : Nat) (L : List (En ByteArray)) : Prop where
  q : ks.Q wi w.heap.size b m s L
  bel : Below w.heap.size w wi
section
variable {w wi wj : World} {b m s b2 m2 s2 t : Nat} {L L2 L' : List (En ByteArray)}
theorem Oq.below (h : Oq w wi b m s L) (hb : Below wi.heap.size wi wj) : Oq w wj b m s L := ⟨h.q.below hb (Nat.le_refl _), bel_trans h.bel hb⟩
theorem Oq.wrote (h : Oq w wi b m s L) (hq : ks.Q wj w.heap.size b m t L') (g : Two b (some m) wi wj) : Oq w wj b m t L' :=
  ⟨hq, h.bel.trans (g.below h.bel.size h.q.own (fun j hj => by injection hj with hj; have := h.q.own'; omega))⟩
theorem Oq.new {m : Nat} (h : Below w.heap.size w wi) (hb : b = wi.heap.size + 1) (hm : m = wi.heap.size) (hq : ks.Q wj wi.heap.size (wi.heap.size + 1) wi.heap.size 0 []) (g : Below wi.heap.size wi wj) : Oq w wj b m 0 [] := by
  subst hb hm
  exact ⟨⟨hq.blk, hq.map, hq.ok, hq.kok, by have := h.size; omega, h.size⟩, bel_trans h g⟩
/-- Another one, that is written, leaves it. -/
theorem Oq.other (h : Oq w wi b m s L) (h2 : Oq w wi b2 m2 s2 L2) (g : Two b2 (some m2) wi wj) (n : b ≠ b2 ∧ b ≠ m2 ∧ m ≠ b2 ∧ m ≠ m2) : Oq w wj b m s L :=
  ⟨h.q.two g n.1 (fun e => n.2.1 (by injection e with e; exact e.symm)) n.2.2.1 (fun e => n.2.2.2 (by injection e with e; exact e.symm)), h2.bel.trans (g.below h2.bel.size h2.q.own (fun j hj => by injection hj with hj; have := h2.q.own'; omega))⟩
end
/-- An act that lies in a block of its own. -/
def ActB (W : World) (P : Nat) (z : Ac) : Prop := W.heap[P]? = some (.cells #[.int .i64 z.k, .string z.s, .int .i64 z.a] 31 (0, 0))
theorem ActB.cells {W : World} {P : Nat} {z : Ac} (h : ActB W P z) : W.cell? ⟨P, 0, none⟩ = some (.int .i64 z.k) ∧ W.cell? ⟨P, 1, none⟩ = some (.string z.s) ∧ W.cell? ⟨P, 2, none⟩ = some (.int .i64 z.a) := by
  refine ⟨?_, ?_, ?_⟩
  all_goals (rw [cell_of_row _ _ _ _ _ _ h]; rfl)
theorem ActB.below {W W' : World} {P : Nat} {z : Ac} (h : ActB W P z) (hb : Below W.heap.size W W') : ActB W' P z := (hb.block P (heap_lt h)).trans h
theorem ActB.two {W W' : World} {P b m : Nat} {z : Ac} (h : ActB W P z) (g : Two b (some m) W W') (h1 : P ≠ b) (h2 : P ≠ m) : ActB W' P z := (g.block P (heap_lt h) h1 (fun e => h2 (by injection e))).trans h
theorem ActB.new (w : World) (z : Ac) : ActB (w.alloc (.cells #[.int .i64 z.k, .string z.s, .int .i64 z.a] 31)) w.heap.size z := heap_alloc_new w _
/-- When it is next, or 0. -/
def NextIs (L : List (En ByteArray)) (n : Int) : Prop := (L = [] ∧ n = 0) ∨ (L ≠ [] ∧ IsNext L n)
theorem NextIs.one {L : List (En ByteArray)} {n m : Int} (h : NextIs L n) (k : NextIs L m) : n = m := by
  rcases h with ⟨h1, h2⟩ | ⟨h1, h2⟩ <;> rcases k with ⟨k1, k2⟩ | ⟨k1, k2⟩
  · omega
  · exact absurd h1 k1
  · exact absurd k1 h1
  · exact h2.one k2
theorem next_uni {w : World} {base b m s : Nat} {L : List (En ByteArray)} (h : ks.Q w base b m s L) :
    Calls Try.prog 14 #[.pointer (some ⟨b, 0, none⟩)] w fun e w' => (∃ n, NextIs L n ∧ e = .returned (.tuple #[.int .i64 n, .bool (!L.isEmpty)])) ∧ Below w.heap.size w w' := by
  cases L with
  | nil =>
    refine (ks.next_none h).mono ?_
    rintro e w' ⟨rfl, rfl⟩
    exact ⟨⟨0, .inl ⟨rfl, rfl⟩, rfl⟩, Below.refl _ _⟩
  | cons x l =>
    refine (ks.next_any h (by simp)).mono ?_
    rintro e w' ⟨⟨n, hn, rfl⟩, hb⟩
    exact ⟨⟨n, .inr ⟨by simp, hn⟩, rfl⟩, hb⟩
end Go.Proofs.Ytebdhleggbccdaa
