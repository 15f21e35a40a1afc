/- Three lists of the call's own that grow side by side; two things of a list that change places. -/
import Derived.Test.YtleghbhgddlehaaApp
namespace Go.Proofs.Ytleghbhgddlehaa
open Go.RowKit Go.Sort

/-- Three rows of numbers, no block of which is another one's. -/
structure Rows3 (w0 w : World) (n1 : Nat) (va : Value) (xs : List Int) (n2 : Nat) (vb : Value) (ys : List Int) (n3 : Nat) (vc : Value) (zs : List Int) : Prop where
  ra : w.ownsRow w0.heap.size 2 1 va n1 (xs.map I)
  rb : w.ownsRow w0.heap.size 2 1 vb n2 (ys.map I)
  rc : w.ownsRow w0.heap.size 2 1 vc n3 (zs.map I)
  ab : ∀ p, va.ownBlock = some p → vb.ownBlock ≠ some p
  bc : ∀ p, vb.ownBlock = some p → vc.ownBlock ≠ some p
  ca : ∀ p, vc.ownBlock = some p → va.ownBlock ≠ some p
  bel : Below w0.heap.size w0 w
section
variable {w0 w w' : World} {n1 n2 n3 : Nat} {va vb vc : Value} {xs ys zs : List Int}
theorem Rows3.rot (h : Rows3 w0 w n1 va xs n2 vb ys n3 vc zs) : Rows3 w0 w n2 vb ys n3 vc zs n1 va xs := ⟨h.rb, h.rc, h.ra, h.bc, h.ca, h.ab, h.bel⟩
theorem Rows3.later (h : Rows3 w0 w n1 va xs n2 vb ys n3 vc zs) (hb : Below w.heap.size w w') : Rows3 w0 w' n1 va xs n2 vb ys n3 vc zs :=
  ⟨own_below h.ra hb (Nat.le_refl _), own_below h.rb hb (Nat.le_refl _), own_below h.rc hb (Nat.le_refl _), h.ab, h.bc, h.ca, bel_trans h.bel hb⟩
theorem Rows3.snoc {n1' : Nat} {va' : Value} {xs' : List Int} (h : Rows3 w0 w n1 va xs n2 vb ys n3 vc zs) (ho : w'.ownsRow w0.heap.size 2 1 va' n1' (xs'.map I)) (hg : w.grownBy w' va.ownBlock)
    (hat : va'.ownBlock = va.ownBlock ∨ va'.ownBlock = some w.heap.size) : Rows3 w0 w' n1' va' xs' n2 vb ys n3 vc zs := by
  refine ⟨ho, own_kept h.rb fun p hp hl => hg.block p hl fun e => ?_, own_kept h.rc fun p hp hl => hg.block p hl fun e => ?_, fun p hp => ?_, h.bc, fun p hp => ?_, bel_grown h.bel h.ra (Nat.le_refl _) hg⟩
  · exact h.ab p e.symm hp
  · exact h.ca p hp e.symm
  · rcases hat with e | e
    · exact h.ab p (by rw [← e]; exact hp)
    · intro hq
      have := (own_lt h.rb hq).2.1
      rw [hp] at e; injection e with e; omega
  · rcases hat with e | e
    · rw [e]; exact h.ca p hp
    · intro hq
      have := (own_lt h.rc hp).2.1
      rw [hq] at e; injection e with e; omega
theorem Rows3.open1 (h : Rows3 w0 w n1 va xs n2 vb ys n3 vc zs) : ∃ A c, va = .slice A n1 c ∧ n1 ≤ c ∧ c ≤ maxLen := own_len h.ra
end

/-- Two things change places. -/
def swap (l : List Int) (i j : Nat) : List Int := (l.set i (l.getD j 0)).set j (l.getD i 0)
theorem swap_perm (l : List Int) (i j : Nat) (hi : i < l.length) (hj : j < l.length) : (swap l i j).Perm l := by
  have h := Array.swap_perm (xs := l.toArray) (i := i) (j := j) (by simpa using hi) (by simpa using hj)
  have e : (l.toArray.swap i j (by simpa using hi) (by simpa using hj)).toList = swap l i j := by
    unfold swap
    simp [Array.swap, List.getD_eq_getElem?_getD, List.getElem?_eq_getElem hi, List.getElem?_eq_getElem hj]
  have h2 := Array.perm_iff_toList_perm.1 h
  rw [e] at h2
  exact h2
theorem length_swap (l : List Int) (i j : Nat) : (swap l i j).length = l.length := by simp [swap]
theorem own_set {w : World} {base n k g c : Nat} {xs : List Int} (h : w.ownsRow base 2 1 (.slice (some ⟨g, 0, none⟩) n c) n (xs.map I)) (x : Int) :
    (w.setCell ⟨g, k, none⟩ (.int .i64 x)).ownsRow base 2 1 (.slice (some ⟨g, 0, none⟩) n c) n ((xs.set k x).map I) := by
  have hl := h.1
  rcases h.2 with ⟨e1, _⟩ | ⟨g', cap, cur, e1, hb, hg, h1, h2, h3, h4⟩
  · cases e1
  · injection e1 with e1 _ e3
    injection e1 with e1
    injection e1 with e1 _ _
    subst e1 e3
    refine ⟨by simpa using hl, .inr ⟨g, c, _, rfl, hb, heap_setCell_same w g k _ _ _ _ hg, h1, h2, by simpa using h3, ?_⟩⟩
    rw [Array.toList_setIfInBounds, List.map_set, ← h4, List.take_set]
theorem two_set {w : World} {g k : Nat} (v : Value) : Two g none w (w.setCell ⟨g, k, none⟩ v) := (Two.of_below (Below.refl _ _)).setCell k v
theorem Rows3.swapped {w0 w : World} {n n2 n3 g c i j : Nat} {vb vc : Value} {xs ys zs : List Int} (h : Rows3 w0 w n (.slice (some ⟨g, 0, none⟩) n c) xs n2 vb ys n3 vc zs) :
    Rows3 w0 ((w.setCell ⟨g, i, none⟩ (.int .i64 (xs.getD j 0))).setCell ⟨g, j, none⟩ (.int .i64 (xs.getD i 0))) n (.slice (some ⟨g, 0, none⟩) n c) (swap xs i j) n2 vb ys n3 vc zs := by
  have ht : Two g none w ((w.setCell ⟨g, i, none⟩ (.int .i64 (xs.getD j 0))).setCell ⟨g, j, none⟩ (.int .i64 (xs.getD i 0))) := (two_set _).setCell _ _
  refine ⟨own_set (own_set h.ra _) _, own_kept h.rb fun p hp hl => ht.block p hl (fun e => ?_) (by simp), own_kept h.rc fun p hp hl => ht.block p hl (fun e => ?_) (by simp), h.ab, h.bc, h.ca, h.bel.trans (ht.below h.bel.size (own_lt h.ra rfl).1 (fun j hj => by cases hj))⟩
  · exact h.ab g rfl (by rw [hp, e])
  · exact h.ca g (by rw [hp, e]) rfl
end Go.Proofs.Ytleghbhgddlehaa
