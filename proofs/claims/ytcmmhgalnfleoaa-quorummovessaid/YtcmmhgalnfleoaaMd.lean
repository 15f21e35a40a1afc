/- The best of samples as plain lists: what one pass gives is what the document asks. Over no program. -/
import Derived.Test.YtcmmhgalnfleoaaSm
namespace Go.Proofs.Ytcmmhgalnfleoaa
open Go.RowKit

/-- The last eight of a list. -/
def last8 {α : Type} (l : List α) : List α := l.drop (l.length - 8)
section
variable {α : Type}
theorem length_last8 (l : List α) : (last8 l).length = min l.length 8 := by unfold last8; rw [List.length_drop]; omega
theorem last8_all {l : List α} (h : l.length ≤ 8) : last8 l = l := by
  unfold last8; rw [Nat.sub_eq_zero_of_le h]; rfl
/-- What Add makes of it. -/
def push8 (l : List α) (x : α) : List α := (if l.length = 8 then l.drop 1 else l) ++ [x]
theorem push8_last (l : List α) (x : α) : push8 (last8 l) x = last8 (l ++ [x]) := by
  unfold push8
  rw [length_last8]
  unfold last8
  by_cases h : 8 ≤ l.length
  · rw [if_pos (by omega), List.drop_drop, List.length_append, List.length_singleton, List.drop_append_of_le_length (by omega)]
    congr 2
    omega
  · rw [if_neg (by omega), List.length_append, List.length_singleton, Nat.sub_eq_zero_of_le (by omega), Nat.sub_eq_zero_of_le (by omega)]
    rfl
theorem last8_get {k : Nat} {l : List α} : (last8 l)[k]? = l[l.length - min l.length 8 + k]? := by
  unfold last8
  rw [List.getElem?_drop]
  congr 2
  omega
theorem mem_last8 {l : List α} {x : α} (h : x ∈ last8 l) : x ∈ l := List.mem_of_mem_drop h
theorem take_snoc {l : List α} {i : Nat} {z : α} (h : l[i]? = some z) : l.take (i + 1) = l.take i ++ [z] := by
  rw [List.take_add_one, h]; rfl
end

def Sm.zero : Sm := ⟨0, 0, 0, 0⟩
theorem Sm.zero_in : Sm.zero.In := by constructor <;> decide
def isFresh (h life : Int) (p : Sm) : Bool := freshOf p.t h life
def better (p q : Sm) : Bool := bet p.d p.t q.d q.t
/-- One step of the pass. -/
def pick (b : Option Sm) (x : Sm) : Option Sm := match b with
  | none => some x
  | some y => if better y x = true then some y else some x
def bestOf (h life : Int) (l : List Sm) : Option Sm := (l.filter (isFresh h life)).foldl pick none

theorem better_iff (p q : Sm) : better p q = true ↔ (p.d < q.d ∨ (p.d = q.d ∧ q.t < p.t)) := by
  unfold better bet
  simp
theorem better_not (p q : Sm) : better p q = false ↔ (q.d < p.d ∨ (p.d = q.d ∧ p.t ≤ q.t)) := by
  rw [← Bool.not_eq_true, better_iff]
  omega
theorem better_asymm {p q : Sm} (h : better p q = true) : better q p = false := by
  rw [better_iff] at h; rw [better_not]; omega
theorem better_irr (p : Sm) : better p p = false := by rw [better_not]; omega
theorem better_neg {p q r : Sm} (h : better p q = false) (g : better q r = false) : better p r = false := by
  rw [better_not] at *; omega
theorem bestOf_snoc (m : List Sm) (x : Sm) : (m ++ [x]).foldl pick none = pick (m.foldl pick none) x := by simp

theorem fold_spec (m : List Sm) : (m = [] ∧ m.foldl pick none = none) ∨ ∃ a y b, m = a ++ y :: b ∧ m.foldl pick none = some y ∧ (∀ q ∈ m, better q y = false) ∧ (∀ q ∈ b, better y q = true) := by
  suffices H : ∀ r : List Sm, (r.reverse = [] ∧ r.reverse.foldl pick none = none) ∨ ∃ a y b, r.reverse = a ++ y :: b ∧ r.reverse.foldl pick none = some y ∧ (∀ q ∈ r.reverse, better q y = false) ∧ (∀ q ∈ b, better y q = true) by
    have := H m.reverse
    rwa [List.reverse_reverse] at this
  intro r
  induction r with
  | nil => left; exact ⟨rfl, rfl⟩
  | cons x r ih =>
    right
    rw [List.reverse_cons, bestOf_snoc]
    rcases ih with ⟨h1, h2⟩ | ⟨a, y, b, h1, h2, h3, h4⟩
    · refine ⟨[], x, [], by simp [h1], by rw [h2]; rfl, fun q hq => ?_, fun q hq => by cases hq⟩
      rw [h1] at hq
      simp at hq
      subst hq
      exact better_irr _
    · by_cases hb : better y x = true
      · refine ⟨a, y, b ++ [x], by rw [h1]; simp, by rw [h2]; simp [pick, hb], fun q hq => ?_, fun q hq => ?_⟩
        · rcases List.mem_append.1 hq with hq | hq
          · exact h3 q hq
          · simp at hq; subst hq; exact better_asymm hb
        · rcases List.mem_append.1 hq with hq | hq
          · exact h4 q hq
          · simp at hq; subst hq; exact hb
      · refine ⟨r.reverse, x, [], rfl, by rw [h2]; simp [pick, hb], fun q hq => ?_, fun q hq => by cases hq⟩
        rcases List.mem_append.1 hq with hq | hq
        · exact better_neg (h3 q hq) (by simpa using hb)
        · simp at hq; subst hq; exact better_irr _

section
variable {h life : Int} {l : List Sm}
theorem best_some {y : Sm} (e : bestOf h life l = some y) : y ∈ l ∧ isFresh h life y = true ∧ ∀ q ∈ l, isFresh h life q = true → better q y = false := by
  rcases fold_spec (l.filter (isFresh h life)) with ⟨_, h2⟩ | ⟨a, y', b, h1, h2, h3, _⟩
  · rw [bestOf, h2] at e; cases e
  · rw [bestOf, h2] at e
    injection e with e
    subst e
    have hm : y' ∈ l.filter (isFresh h life) := by rw [h1]; simp
    rw [List.mem_filter] at hm
    exact ⟨hm.1, hm.2, fun q hq hf => h3 q (List.mem_filter.2 ⟨hq, hf⟩)⟩
theorem best_none (e : bestOf h life l = none) : ∀ q ∈ l, isFresh h life q = false := by
  rcases fold_spec (l.filter (isFresh h life)) with ⟨h1, _⟩ | ⟨a, y', b, _, h2, _⟩
  · intro q hq
    rw [List.filter_eq_nil_iff] at h1
    simpa using h1 q hq
  · rw [bestOf, h2] at e; cases e
theorem best_of_none (e : ∀ q ∈ l, isFresh h life q = false) : bestOf h life l = none := by
  have : l.filter (isFresh h life) = [] := by
    rw [List.filter_eq_nil_iff]
    intro q hq
    rw [e q hq]; simp
  unfold bestOf
  rw [this]; rfl
/-- A fresh one than which none fresh is better. -/
def Top (h life : Int) (l : List Sm) (p : Sm) : Prop := isFresh h life p = true ∧ ∀ q ∈ l, isFresh h life q = true → better q p = false
theorem best_split {y : Sm} (e : bestOf h life l = some y) : ∃ a b, l = a ++ y :: b ∧ Top h life l y ∧ ∀ q ∈ b, isFresh h life q = true → better y q = true := by
  obtain ⟨m1, m2, m3⟩ := best_some e
  rcases fold_spec (l.filter (isFresh h life)) with ⟨_, h2⟩ | ⟨a, y', b, h1, h2, _, h4⟩
  · rw [bestOf, h2] at e; cases e
  · rw [bestOf, h2] at e
    injection e with e
    subst e
    rw [List.filter_eq_append_iff] at h1
    obtain ⟨l1, l2, rfl, e1, e2⟩ := h1
    rw [List.filter_eq_cons_iff] at e2
    obtain ⟨k1, k2, rfl, e3, e4, e5⟩ := e2
    refine ⟨l1 ++ k1, k2, by simp, ⟨m2, m3⟩, fun q hq hf => h4 q ?_⟩
    rw [← e5]
    exact List.mem_filter.2 ⟨hq, hf⟩
/-- The document's way down finds it. -/
theorem doc_some {i : Nat} {p : Sm} (hp : l[i]? = some p) (ht : Top h life l p) (hb : ∀ j q, i < j → l[j]? = some q → ¬ Top h life l q) : bestOf h life l = some p := by
  cases e : bestOf h life l with
  | none =>
    have := best_none e p (List.mem_of_getElem? hp)
    rw [ht.1] at this; cases this
  | some y =>
    obtain ⟨a, b, e1, e2, e3⟩ := best_split e
    have gy : l[a.length]? = some y := by rw [e1]; simp
    rcases Nat.lt_trichotomy a.length i with hlt | heq | hgt
    · have hpb : p ∈ b := by
        rw [e1, List.getElem?_append_right (by omega), show i - a.length = (i - a.length - 1) + 1 by omega, List.getElem?_cons_succ] at hp
        exact List.mem_of_getElem? hp
      have h1 := e3 p hpb ht.1
      have h2 := ht.2 y (List.mem_of_getElem? gy) e2.1
      rw [h1] at h2; cases h2
    · rw [← heq, gy] at hp
      exact hp
    · exact absurd e2 (hb _ _ hgt gy)
theorem doc_none (hb : ∀ (j : Nat) q, l[j]? = some q → ¬ Top h life l q) : bestOf h life l = none := by
  cases e : bestOf h life l with
  | none => rfl
  | some y =>
    obtain ⟨a, b, e1, e2, e3⟩ := best_split e
    exact absurd e2 (hb a.length y (by rw [e1]; simp))
end
/-- What Best tells of it. -/
def bestSm (b : Option Sm) : Sm := b.getD Sm.zero
def bestNow (b : Option Sm) (n : Int) : Int := match b with | none => 0 | some p => nowOf p.o p.s n
theorem bestSm_in {h life : Int} {l : List Sm} (hl : ∀ p ∈ l, p.In) : (bestSm (bestOf h life l)).In := by
  cases e : bestOf h life l with
  | none => exact Sm.zero_in
  | some y => exact hl y (best_some e).1
end Go.Proofs.Ytcmmhgalnfleoaa
