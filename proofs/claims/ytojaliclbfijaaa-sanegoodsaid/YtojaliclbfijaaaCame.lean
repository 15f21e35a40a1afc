/- Bytes that came in behind bytes of the call's own; what stands behind the first 48 bytes plays no part. -/
import Derived.Test.YtojaliclbfijaaaNames
import Derived.Test.YtojaliclbfijaaaJoin
namespace Go.Proofs.Ytojaliclbfijaaa
open Go.RowKit

theorem wpList_append_came {w a0 : World} {ops : Array Oper} {rest : List Oper} {o : Oper} {a : Act} {Q : Exit → Act → World → Prop} (hgd : o.guard = none) (s x : Operand)
    (ho : o.op = .call { callee := .builtin .append, args := #[s, x], argTypes := #[22, 22] }) (B : Nat) (v : Value) (xs : List Int) (hs : a.eval s = v) (hown : Own w B v xs)
    (A : Option Addr) (m c : Nat) (zs : List Int) (hx : a.eval x = .slice A m c) (hz : Bytes w A m c zs) (hn : xs.length + m ≤ 100000) (hB : B ≤ w.heap.size) (hb : Below B a0 w)
    (h : ∀ v' w', Own w' B v' (xs ++ zs) → Below B a0 w' → wpList Try.prog ops Q rest (a.put o.dst v') w') : wpList Try.prog ops Q (o :: rest) a w := by
  obtain ⟨hl, hlc, hcm, hall, hat, hnil⟩ := hz
  refine wpList_append_bytes hgd s x ho B v xs hs hown A m c zs hx hl (fun h0 => ?_) hnil hn hB ?_
  · obtain ⟨g, o, e, _, hh⟩ := hat h0
    exact ⟨g, o, e, hh⟩
  · intro v' w' h1 h2
    exact h v' w' h1 (hb.grown h2 hB (fun k hk => (World.ownsRow.lt hown k hk).1))
theorem own_bytes {w : World} {B n : Nat} {v : Value} {xs : List Int} (h : Own w B v xs) (hn : xs.length = n) (hall : AllBytes xs) : ∃ A c, v = .slice A n c ∧ Bytes w A n c xs := by
  rcases Nat.eq_zero_or_pos n with h0 | h0
  · subst h0
    obtain rfl : xs = [] := List.eq_nil_of_length_eq_zero hn
    unfold Own at h
    rcases h.2 with ⟨h2, _⟩ | ⟨g, cap, cur, h2, hg, hh, h3, h4, _, _⟩
    · exact ⟨none, 0, h2, rfl, Nat.le_refl _, by unfold maxLen; omega, hall, fun h => absurd h (Nat.lt_irrefl 0), fun _ => rfl⟩
    · exact ⟨some ⟨g, 0, none⟩, cap, h2, rfl, h3, h4, hall, fun h => absurd h (Nat.lt_irrefl 0), fun h => by cases h⟩
  · obtain ⟨g, c, e, hg, hlt, hc, hm, hh⟩ := own_form h hn h0
    exact ⟨some ⟨g, 0, none⟩, c, e, hn, hc, hm, hall, fun _ => ⟨g, 0, rfl, hlt, hh⟩, fun h => by cases h⟩
theorem own_new (w : World) (o : Obj) : Own ((w.alloc o).alloc (.cells #[] 5)) (w.heap.size + 1) (.slice (some ⟨w.heap.size + 1, 0, none⟩) 0 0) [] := by
  have := own_empty (w.alloc o) (w.heap.size + 1) (by simp)
  rw [show (w.alloc o).heap.size = w.heap.size + 1 by simp] at this
  exact this

theorem seg_append (zs bs : List Int) (i n : Nat) (h : i + n ≤ zs.length) : seg (zs ++ bs) i n = seg zs i n := by
  unfold seg
  rw [List.drop_append_of_le_length (by omega), List.take_append_of_le_length (by simp; omega)]
theorem getD_append (zs bs : List Int) (i : Nat) (h : i < zs.length) : (zs ++ bs).getD i 0 = zs.getD i 0 := by
  simp [List.getD, List.getElem?_append_left h]
theorem pkOf_append (zs bs : List Int) (h : 48 ≤ zs.length) : pkOf (zs ++ bs) = pkOf zs := by
  unfold pkOf
  rw [getD_append zs bs 0 (by omega), getD_append zs bs 1 (by omega), getD_append zs bs 2 (by omega), getD_append zs bs 3 (by omega),
    seg_append zs bs 4 4 (by omega), seg_append zs bs 8 4 (by omega), seg_append zs bs 12 4 (by omega), seg_append zs bs 16 8 (by omega),
    seg_append zs bs 24 8 (by omega), seg_append zs bs 32 8 (by omega), seg_append zs bs 40 8 (by omega)]
theorem look_append (k : Int) (zs bs : List Int) (h : 48 ≤ zs.length) : lookP k (zs ++ bs) = lookP k zs ∧ lookW k (zs ++ bs) = lookW k zs := by
  unfold lookP lookW
  rw [if_neg (by rw [List.length_append]; omega), if_neg (by omega), if_neg (by rw [List.length_append]; omega), if_neg (by omega), pkOf_append zs bs h]
  exact ⟨rfl, rfl⟩
theorem why_range (k : Int) (p : Pk) : 0 ≤ whyOf k p 0 ∧ whyOf k p 0 < 13 ∧ whyOf k p 0 ≠ 1 := by
  rcases ways k p with h | h | h | h | h | h | h | h | h | h <;> (try simp only [← and_assoc] at h) <;> rw [h.2] <;> decide
/-- What is told of 48 bytes or more. -/
theorem look_ways (k : Int) (zs : List Int) (h : 48 ≤ zs.length) : 0 ≤ lookW k zs ∧ lookW k zs < 13 ∧ lookW k zs ≠ 1 ∧ (lookW k zs = 0 ∨ lookW k zs = 8 ∨ (lookW k zs ≠ 0 ∧ lookW k zs ≠ 8 ∧ lookP k zs = zeroPk)) := by
  unfold lookP lookW
  rw [if_neg (by omega), if_neg (by omega)]
  obtain ⟨h0, h1, h2⟩ := why_range k (pkOf zs)
  refine ⟨h0, h1, h2, ?_⟩
  rcases told_way (whyOf k (pkOf zs) 0) (pkOf zs) with h | h | h
  · exact .inl h.1
  · exact .inr (.inl h.1)
  · exact .inr (.inr h)
theorem look_few (k : Int) (zs : List Int) (h : zs.length < 48) : lookP k zs = zeroPk ∧ lookW k zs = 1 := by
  unfold lookP lookW
  rw [if_pos h, if_pos h]
  exact ⟨rfl, rfl⟩
end Go.Proofs.Ytojaliclbfijaaa
