/- What conf is about, in plain lists (from conf's texts). -/
import Derived.Test.YtfknefpfekjnnaaRows
import Derived.WalkKit
import Derived.WalkSpells
import Derived.Below
import Derived.Deep.Draws
import Derived.Lib.Builder
import Derived.Lib.Hide
namespace Go.Proofs.Ytfknefpfekjnnaa
open Go.RowKit

structure Cfg where
  S : List Int
  q : Int
  l : Int
  m : Int
  d : Int
  s : Int
def Cfg.none : Cfg := ⟨[], 0, 0, 0, 0, 0⟩
/-- Of each server in order. -/
def srvs (seen : List Int) : List Int → Nat
  | [] => 0
  | a :: r => if a < 1 ∨ 65535 < a then 3 else if a ∈ seen then 12 else srvs (seen ++ [a]) r
def numsOk (c : Cfg) : Prop := (1 ≤ c.q ∧ c.q ≤ c.S.length) ∧ (4 ≤ c.l ∧ c.l ≤ 1024) ∧ (c.l ≤ c.m ∧ c.m ≤ 1024) ∧ (1 ≤ c.d ∧ c.d ≤ 1000 * c.l - 2000) ∧ (1 ≤ c.s ∧ c.s ≤ 500)
instance (c : Cfg) : Decidable (numsOk c) := by unfold numsOk; infer_instance
def checkOf (c : Cfg) : Nat := if c.S = [] then 13 else if 16 < c.S.length then 11 else if srvs [] c.S ≠ 0 then srvs [] c.S else if numsOk c then 0 else 3

theorem srvs_step (S : List Int) (k : Nat) (h : k < S.length) : srvs (S.take k) (S.drop k) = if S[k] < 1 ∨ 65535 < S[k] then 3 else if S[k] ∈ S.take k then 12 else srvs (S.take (k + 1)) (S.drop (k + 1)) := by
  rw [List.drop_eq_getElem_cons h, srvs, List.take_succ_eq_append_getElem h]
/-- The numbers xs can be read at v. -/
def Ints (w : World) (v : Value) (xs : List Int) : Prop := ∃ A c, v = .slice A xs.length c ∧ xs.length ≤ c ∧ (0 < xs.length → ∃ g o, A = some ⟨g, o, none⟩ ∧ g < w.heap.size ∧ ∀ (j : Nat) (x : Int), xs[j]? = some x → w.cell? ⟨g, o + j, none⟩ = some (.int .i64 x))
def cval (v : Value) (c : Cfg) : Value := .agg #[v, .int .i64 c.q, .int .i64 c.l, .int .i64 c.m, .int .i64 c.d, .int .i64 c.s]
theorem Ints.below {w w' : World} {B : Nat} {v : Value} {xs : List Int} (h : Ints w v xs) (hb : Below B w w') (hB : w.heap.size ≤ B) : Ints w' v xs := by
  obtain ⟨A, c, rfl, hc, hr⟩ := h
  refine ⟨A, c, rfl, hc, fun h0 => ?_⟩
  obtain ⟨g, o, rfl, hg, hcell⟩ := hr h0
  exact ⟨g, o, rfl, Nat.lt_of_lt_of_le hg hb.size, fun j x hj => (hb.cell (p := ⟨g, o + j, none⟩) (by simp; omega)).trans (hcell j x hj)⟩
theorem Ints.alloc {w : World} {v : Value} {xs : List Int} (h : Ints w v xs) (o : Obj) : Ints (w.alloc o) v xs := h.below ((Below.refl _ _).alloc (Nat.le_refl _) _) (Nat.le_refl _)
theorem Ints.nil (w : World) : Ints w (.slice none 0 0) [] := ⟨none, 0, rfl, Nat.le_refl _, fun h => by simp at h⟩
theorem Ints.len {w : World} {v : Value} {xs : List Int} (h : Ints w v xs) : ∃ A c, v = .slice A xs.length c ∧ xs.length ≤ c := by
  obtain ⟨A, c, h1, h2, _⟩ := h; exact ⟨A, c, h1, h2⟩
theorem Ints.at_ {w : World} {A : Option Addr} {n c : Nat} {xs : List Int} (h : Ints w (.slice A n c) xs) (k : Nat) (hk : k < xs.length) : ∃ g o, A = some ⟨g, o, none⟩ ∧ g < w.heap.size ∧ w.cell? ⟨g, o + k, none⟩ = some (.int .i64 xs[k]) := by
  obtain ⟨A', c', e, hc, hr⟩ := h
  injection e with e1 e2 e3
  subst e1 e3
  obtain ⟨g, o, rfl, hg, hcell⟩ := hr (by omega)
  exact ⟨g, o, rfl, hg, hcell k _ (List.getElem?_eq_getElem hk)⟩
theorem Ints.take {w : World} {A : Option Addr} {n c : Nat} {xs : List Int} (h : Ints w (.slice A n c) xs) (k : Nat) (hk : k ≤ xs.length) : Ints w (.slice A k c) (xs.take k) := by
  obtain ⟨A', c', e, hc, hr⟩ := h
  injection e with e1 e2 e3
  subst e1 e3
  refine ⟨A, c, by simp [Nat.min_eq_left hk], by simp; omega, fun h0 => ?_⟩
  obtain ⟨g, o, rfl, hg, hcell⟩ := hr (by simp at h0; omega)
  exact ⟨g, o, rfl, hg, fun j x hj => hcell j x (by rw [List.getElem?_take] at hj; split at hj <;> simp_all)⟩
theorem below_draws {w : World} (n : Nat) : Below w.heap.size w (w.drewN n) := ⟨rfl, rfl, rfl, Nat.le_refl _, fun _ _ => rfl⟩
theorem take_eq_succ {xs ys : List Int} {k : Nat} (h : k < xs.length) (h' : k < ys.length) (he : xs.take k = ys.take k) (hx : xs[k] = ys[k]) : xs.take (k + 1) = ys.take (k + 1) := by
  rw [List.take_succ_eq_append_getElem h, List.take_succ_eq_append_getElem h', he, hx]

theorem six_cells {w : World} {g : Nat} {v0 v1 v2 v3 v4 v5 : Value} {t : TypeId} (h : w.heap[g]? = some (.cells #[v0, v1, v2, v3, v4, v5] t (0, 0))) : w.cell? ⟨g, 0, none⟩ = some v0 ∧ w.cell? ⟨g, 1, none⟩ = some v1 ∧ w.cell? ⟨g, 2, none⟩ = some v2 ∧ w.cell? ⟨g, 3, none⟩ = some v3 ∧ w.cell? ⟨g, 4, none⟩ = some v4 ∧ w.cell? ⟨g, 5, none⟩ = some v5 := by
  refine ⟨?_, ?_, ?_, ?_, ?_, ?_⟩
  all_goals (rw [Lib.cell_of_heap h]; rfl)
end Go.Proofs.Ytfknefpfekjnnaa
