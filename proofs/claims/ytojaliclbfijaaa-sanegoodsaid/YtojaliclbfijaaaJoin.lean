/- Bytes that came in, behind bytes of the call's own. -/
import Derived.Test.YtojaliclbfijaaaBack
import Derived.Test.YtojaliclbfijaaaOpen
import Derived.Laws.AppendOwnNone
namespace Go.Proofs.Ytojaliclbfijaaa
open Go.RowKit

theorem own_form {w : World} {B n : Nat} {v : Value} {xs : List Int} (h : Own w B v xs) (hn : xs.length = n) (h0 : 0 < n) :
    ∃ g c, v = .slice (some ⟨g, 0, none⟩) n c ∧ B ≤ g ∧ g < w.heap.size ∧ n ≤ c ∧ c ≤ maxLen ∧ Has w g 0 xs := by
  unfold Own at h
  rw [hn] at h
  rcases h.2 with ⟨_, h1⟩ | ⟨g, cap, cur, rfl, hg, hh, h1, h2, h3, h4⟩
  · omega
  · have hlt : g < w.heap.size := by
      rcases Nat.lt_or_ge g w.heap.size with hx | hx
      · exact hx
      · rw [Array.getElem?_eq_none hx] at hh; cases hh
    refine ⟨g, cap, rfl, hg, hlt, h1, h2, ?_⟩
    intro t ht
    rw [Nat.zero_add, World.ownsRow.cellAt h t (by omega)]
    simp [List.getD, ht]

theorem own_empty (w : World) (B : Nat) (hB : B ≤ w.heap.size) : Own (w.alloc (.cells #[] 5)) B (.slice (some ⟨w.heap.size, 0, none⟩) 0 0) [] :=
  World.ownsRow_lit w #[] 0 hB (by unfold maxLen; omega) rfl

theorem wpList_append_bytes {w : World} {ops : Array Oper} {rest : List Oper} {o : Oper} {a : Act} {Q : Exit → Act → World → Prop} (hgd : o.guard = none) (s x : Operand)
    (ho : o.op = .call { callee := .builtin .append, args := #[s, x], argTypes := #[22, 22] }) (B : Nat) (v : Value) (xs : List Int) (hs : a.eval s = v) (hown : Own w B v xs)
    (A : Option Addr) (m c : Nat) (zs : List Int) (hx : a.eval x = .slice A m c) (hl : zs.length = m) (hA : 0 < m → ∃ g o, A = some ⟨g, o, none⟩ ∧ Has w g o zs) (hnil : A = none → c = 0)
    (hn : xs.length + m ≤ 100000) (hB : B ≤ w.heap.size)
    (h : ∀ v' w', Own w' B v' (xs ++ zs) → w.grownBy w' v.ownBlock → wpList Try.prog ops Q rest (a.put o.dst v') w') : wpList Try.prog ops Q (o :: rest) a w := by
  obtain ⟨i0, hi, hz0, hz1, hz2⟩ := info_parts info5
  cases A with
  | none =>
    have hm : m = 0 := by
      rcases Nat.eq_zero_or_pos m with h0 | h0
      · exact h0
      · obtain ⟨_, _, he, _⟩ := hA h0; cases he
    subst hm
    have hc := hnil rfl
    subst hc
    obtain rfl : zs = [] := List.eq_nil_of_length_eq_zero hl
    refine wpList_append_own_none hgd s x 22 ho B 5 i0 1 Try.underlying22 hi v xs.length _ hs hown hx ?_
    exact h v w (by rw [List.append_nil]; exact hown) (World.grownBy.refl _ _)
  | some ad =>
    refine wpList_append_own_at _ hgd s x 22 ho B 5 i0 (.int .u8 0) 1 1 Try.underlying22 hi hz0 hz1 hz2 rfl (by decide) v xs.length _ hs hown ad m c (zs.map (Value.int .u8)) hx (by simp [hl]) ?_ (ints_oneCell _ _) (by unfold maxLen; omega) (by omega) hB ?_
    · intro j u hu
      have hj : j < zs.length := by
        rcases Nat.lt_or_ge j zs.length with h1 | h1
        · exact h1
        · rw [List.getElem?_eq_none (by simpa using h1)] at hu; cases hu
      obtain ⟨g, o', he, hh⟩ := hA (by omega)
      injection he with he
      subst he
      have e : (⟨g, o', none⟩ : Addr).add j = ⟨g, o' + j, none⟩ := by unfold Addr.add; split <;> simp_all
      rw [e, hh j hj]
      simp [List.getElem?_eq_getElem hj] at hu
      subst hu
      simp [List.getD, hj]
    · intro v' w' h1 h2 _ _
      refine h v' w' ?_ h2
      unfold Own
      simpa [hl] using h1

theorem has_take {w : World} {g o : Nat} {zs : List Int} (n : Nat) (h : Has w g o zs) : Has w g o (zs.take n) := by
  intro t ht
  have h1 : t < n ∧ t < zs.length := by simp at ht; omega
  rw [h t h1.2]
  simp [List.getD, h1.1]

end Go.Proofs.Ytojaliclbfijaaa
