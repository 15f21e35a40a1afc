/- Appends as steps of a region that draws its order; what Look tells of Good's bytes. -/
import Derived.Test.YtojaliclbfijaaaCame
import Derived.Deep.AppendLies
import Derived.Deep.RegionHeld3
namespace Go.Proofs.Ytojaliclbfijaaa
open Go.RowKit

/-- Blocks that a row does not lie in stay as they were, and the new row lies in none of them. -/
def Stays (w : World) (v : Value) (w' : World) (v' : Value) : Prop := ∀ (h : Nat) (o : Obj), w.heap[h]? = some o → v.ownBlock ≠ some h → w'.heap[h]? = some o ∧ v'.ownBlock ≠ some h
theorem heap_lt {w : World} {h : Nat} {o : Obj} (e : w.heap[h]? = some o) : h < w.heap.size := by
  rcases Nat.lt_or_ge h w.heap.size with hx | hx
  · exact hx
  · rw [Array.getElem?_eq_none hx] at e; cases e
theorem run_append_came {w a0 : World} (ty : TypeId) (B : Nat) (v : Value) (xs : List Int) (hown : Own w B v xs)
    (A : Option Addr) (m c : Nat) (zs : List Int) (hz : Bytes w A m c zs) (hn : xs.length + m ≤ 100000) (hB : B ≤ w.heap.size) (hb : Below B a0 w) :
    ∃ v' w', (Builtin.append_ #[22, 22] ty #[v, .slice A m c]).run Try.prog w = .ok v' w' ∧ Own w' B v' (xs ++ zs) ∧ Below B a0 w' ∧ Stays w v w' v' := by
  obtain ⟨i0, hi, hz0, hz1, hz2⟩ := info_parts info5
  obtain ⟨hl, hlc, hcm, hall, hat, hnil⟩ := hz
  cases A with
  | none =>
    have hm : m = 0 := by
      rcases Nat.eq_zero_or_pos m with h0 | h0
      · exact h0
      · obtain ⟨_, _, he, _⟩ := hat h0; cases he
    subst hm
    have hc := hnil rfl
    subst hc
    obtain rfl : zs = [] := List.eq_nil_of_length_eq_zero hl
    refine ⟨v, w, run_append_owned_none (P := Try.prog) (w := w) B 22 ty 5 i0 1 Try.underlying22 hi v xs.length _ hown, by rw [List.append_nil]; exact hown, hb, fun h o h1 h2 => ⟨h1, h2⟩⟩
  | some ad =>
    obtain ⟨v', w', hr, h1, h2, _, h5⟩ := run_append_own_at (P := Try.prog) w B 22 ty 5 i0 (.int .u8 0) 1 1 Try.underlying22 hi hz0 hz1 hz2 rfl (by decide) v xs.length _ hown ad m c (zs.map (Value.int .u8)) (by simp [hl]) (by
      intro j u hu
      have hj : j < zs.length := by
        rcases Nat.lt_or_ge j zs.length with h1 | h1
        · exact h1
        · rw [List.getElem?_eq_none (by simpa using h1)] at hu; cases hu
      obtain ⟨g, o', he, _, hh⟩ := hat (by omega)
      injection he with he
      subst he
      have e : (⟨g, o', none⟩ : Addr).add j = ⟨g, o' + j, none⟩ := by unfold Addr.add; split <;> simp_all
      rw [e, hh j hj]
      simp [List.getElem?_eq_getElem hj] at hu
      subst hu
      simp [List.getD, hj]) (ints_oneCell _ _) (by unfold maxLen; omega) (by omega) hB
    refine ⟨v', w', hr, ?_, hb.grown h2 hB (fun k hk => (World.ownsRow.lt hown k hk).1), ?_⟩
    · unfold Own
      simpa [hl] using h1
    · intro h o e hne
      have hlt := heap_lt e
      refine ⟨(h2.block h hlt (fun he => hne he.symm)).trans e, ?_⟩
      rcases h5 with h5 | h5
      · rw [h5]; exact hne
      · rw [h5]; intro he; injection he with he; omega
theorem step_append_came {w a0 : World} {ops : Array Oper} {o : Oper} {a : Act} {K : Act → World → Prop} {Q : Exit → Act → World → Prop} {E : Prop} (hgd : o.guard = none) (s x : Operand)
    (ho : o.op = .call { callee := .builtin .append, args := #[s, x], argTypes := #[22, 22] }) (B : Nat) (v : Value) (xs : List Int) (hs : a.eval s = v) (hown : Own w B v xs)
    (A : Option Addr) (m c : Nat) (zs : List Int) (hx : a.eval x = .slice A m c) (hz : Bytes w A m c zs) (hn : xs.length + m ≤ 100000) (hB : B ≤ w.heap.size) (hb : Below B a0 w)
    (h : ∀ v' w', Own w' B v' (xs ++ zs) → Below B a0 w' → Stays w v w' v' → K (a.put o.dst v') w') : if Region.wanted o (yielded ops a.tmps) = true then Oper.wp Try.prog o a w K Q else E := by
  have hw : Region.wanted o (yielded ops a.tmps) = true := by simp [Region.wanted, hgd]
  rw [if_pos hw]
  obtain ⟨v', w', hr, h1, h2, h3⟩ := run_append_came o.type B v xs hown A m c zs hz hn hB hb
  unfold Oper.wp execOp
  simp only [ho, resolve, invoke, builtin, Sem.run_bind, Sem.run_pure, Result.andThen_ok, List.map_toArray, List.map_cons, List.map_nil, hs, hx, hr]
  exact h v' w' h1 h2 h3

/-- What Look tells of Good's bytes. -/
theorem good_ways (k r x : Int) : (k = 0 ∧ whyOf k (good k r x) 0 = 7) ∨ (k ≠ 0 ∧ r = 0 ∧ whyOf k (good k r x) 0 = 11) ∨ (k ≠ 0 ∧ r ≠ 0 ∧ x = 0 ∧ whyOf k (good k r x) 0 = 11) ∨
    (k ≠ 0 ∧ r ≠ 0 ∧ x ≠ 0 ∧ whyOf k (good k r x) 0 = 0) := by
  unfold whyOf tests
  by_cases hk : k = 0
  · exact .inl ⟨hk, by simp [whyL, good, hk]⟩
  · by_cases hr : r = 0
    · exact .inr (.inl ⟨hk, hr, by simp [whyL, good, hk, hr]⟩)
    · by_cases hx : x = 0
      · exact .inr (.inr (.inl ⟨hk, hr, hx, by simp [whyL, good, hk, hx]⟩))
      · exact .inr (.inr (.inr ⟨hk, hr, hx, by simp [whyL, good, hk, hr, hx]⟩))
end Go.Proofs.Ytojaliclbfijaaa
