/- Rows of strings and of lines in memory: what they are, and what keeps them. -/
import Derived.Test.YtfhpckglckcdjaaDoorLx
import Derived.WalkKit
import Derived.Lib.OthersKept
import Derived.Maps.AppendAt
import Derived.Laws.RangeAny
namespace Go.Proofs.Lx
open Go.RowKit

def Str (l : Bs) : Value := .string ⟨l.toArray⟩
theorem str_eq (s : ByteArray) : Value.string s = Str s.data.toList := by unfold Str; rfl
theorem str_one (l : Bs) : (Str l).oneCell' = true := rfl
theorem ext_list (s : ByteArray) (a b : Nat) : (s.extract a b).data.toList = (s.data.toList.take b).drop a := by
  rw [ByteArray.data_extract, Array.toList_extract]
  simp [List.extract_eq_take_drop, List.drop_take]

/-- What a row of the call's own is behind a world that keeps every old block. -/
theorem own_below {w w' : World} {B base e size n : Nat} {v : Value} {xs : List Value} (h : w.ownsRow base e size v n xs) (hb : Below B w w') (hB : w.heap.size ≤ B) : w'.ownsRow base e size v n xs := by
  refine ⟨h.1, ?_⟩
  rcases h.2 with h0 | ⟨g, cap, cur, hv, hb', hg, rest⟩
  · exact .inl h0
  · have hlt : g < w.heap.size := (Array.getElem?_eq_some_iff.1 hg).1
    exact .inr ⟨g, cap, cur, hv, hb', (hb.block g (by omega)).trans hg, rest⟩
theorem own_base {w : World} {base base' e size n : Nat} {v : Value} {xs : List Value} (h : w.ownsRow base e size v n xs) (hb : base' ≤ base) : w.ownsRow base' e size v n xs := by
  refine ⟨h.1, ?_⟩
  rcases h.2 with h0 | ⟨g, cap, cur, hv, hb', hg, rest⟩
  · exact .inl h0
  · exact .inr ⟨g, cap, cur, hv, by omega, hg, rest⟩
theorem own_types {w : World} {b1 b2 e1 e2 s1 s2 n1 n2 : Nat} {v1 v2 : Value} {x1 x2 : List Value} (h1 : w.ownsRow b1 e1 s1 v1 n1 x1) (h2 : w.ownsRow b2 e2 s2 v2 n2 x2) (hne : e1 ≠ e2) : v1.ownBlock = none ∨ v1.ownBlock ≠ v2.ownBlock := by
  rcases h1.2 with ⟨rfl, _⟩ | ⟨g1, cap1, cur1, rfl, _, hg1, _⟩
  · exact .inl rfl
  · refine .inr fun e => ?_
    rcases h2.2 with ⟨rfl, _⟩ | ⟨g2, cap2, cur2, rfl, _, hg2, _⟩
    · simp [Value.ownBlock] at e
    · simp only [Value.ownBlock, Option.some.injEq] at e
      subst e
      rw [hg1] at hg2
      injection hg2 with hg2
      injection hg2 with _ ht
      exact hne ht
theorem own_iter {w : World} {B e size n : Nat} {v : Value} {xs : List Value} {k : Nat} {s : ByteArray} {pos : Nat} (h : w.ownsRow B e size v n xs) (hk : w.heap[k]? = some (.stringIter s pos)) (pos' : Nat) : (w.iterAt k s pos').ownsRow B e size v n xs := by
  refine ⟨h.1, ?_⟩
  rcases h.2 with h0 | ⟨g, cap, cur, hv, hb, hg, rest⟩
  · exact .inl h0
  · refine .inr ⟨g, cap, cur, hv, hb, ?_, rest⟩
    rw [Lib.iterAt_other _ _ _ _ _ (fun e => by subst e; rw [hk] at hg; cases hg)]
    exact hg
theorem own_not_iter {w : World} {B e size n : Nat} {v : Value} {xs : List Value} {k : Nat} {s : ByteArray} {pos : Nat} (h : w.ownsRow B e size v n xs) (hk : w.heap[k]? = some (.stringIter s pos)) : some k ≠ v.ownBlock := by
  rcases h.2 with ⟨rfl, _⟩ | ⟨g, cap, cur, rfl, hb, hg, rest⟩
  · simp [Value.ownBlock]
  · intro e
    simp only [Value.ownBlock, Option.some.injEq] at e
    subst e
    rw [hk] at hg; cases hg
theorem own_len {w : World} {base e size n : Nat} {v : Value} {xs : List Value} (h : w.ownsRow base e size v n xs) : ∃ A c, v = .slice A n c ∧ n ≤ c := by
  rcases h.2 with ⟨rfl, rfl⟩ | ⟨g, cap, cur, rfl, hb, hg, hn, rest⟩
  · exact ⟨_, _, rfl, Nat.le_refl _⟩
  · exact ⟨_, _, rfl, hn⟩
/-- A row that isn't empty: its address, its cells. -/
theorem own_cells {w : World} {base e size n : Nat} {v : Value} {xs : List Value} (h : w.ownsRow base e size v n xs) (hn : 0 < n) : ∃ g c, v = .slice (some ⟨g, 0, none⟩) n c ∧ n ≤ c ∧ g < w.heap.size ∧ base ≤ g ∧ ∀ j u, xs[j]? = some u → w.cell? ⟨g, j, none⟩ = some u := by
  rcases h.2 with ⟨rfl, rfl⟩ | ⟨g, cap, cur, rfl, hb, hg, hc, rest⟩
  · omega
  · refine ⟨g, cap, rfl, hc, (Array.getElem?_eq_some_iff.1 hg).1, hb, fun j u hu => ?_⟩
    have hj : j < n * size := by
      have := (List.getElem?_eq_some_iff.1 hu).1
      rw [h.1] at this
      exact this
    rw [h.cellAt j hj]
    exact hu
/-- Two steps, each of which lets a world grow. -/
theorem grown_trans {a b c : World} {row row' : Option Nat} (h : a.grownBy b row) (k : b.grownBy c row') (hr : row' = row ∨ ∃ g, row' = some g ∧ a.heap.size ≤ g) : a.grownBy c row := by
  refine ⟨k.os.trans h.os, k.tape.trans h.tape, k.output.trans h.output, Nat.le_trans h.size k.size, fun i hi hne => ?_⟩
  have hlt : i < b.heap.size := Nat.lt_of_lt_of_le hi h.size
  refine (k.block i hlt ?_).trans (h.block i hi hne)
  rcases hr with rfl | ⟨g, rfl, hg⟩
  · exact hne
  · intro e; injection e with e; omega
theorem grown_of_below {w w' : World} {B : Nat} (h : Below B w w') (hB : w.heap.size ≤ B) (row : Option Nat) : w.grownBy w' row := ⟨h.os, h.tape, h.output, h.size, fun k hk _ => h.block k (by omega)⟩

/-- The strings ws lie in v. -/
def Strs (w : World) (base : Nat) (v : Value) (ws : List Bs) : Prop := w.ownsRow base 9 1 v ws.length (ws.map Str)
def Lns (w : World) (base : Nat) (L : List Ln) (cs : List Value) : Prop :=
  ∀ (j m : Nat) (ws : List Bs), L[j]? = some (m, ws) → cs[2 * j]? = some (.int .i64 m) ∧ ∃ v, cs[2 * j + 1]? = some v ∧ Strs w base v ws
/-- The lines L lie in v, whose elements are of type T. -/
def IsLines (T : TypeId) (w : World) (base : Nat) (v : Value) (L : List Ln) : Prop := ∃ cs, w.ownsRow base T 2 v L.length cs ∧ Lns w base L cs

theorem Strs.below {w w' : World} {base B : Nat} {v : Value} {ws : List Bs} (h : Strs w base v ws) (hb : Below B w w') (hB : w.heap.size ≤ B) : Strs w' base v ws := own_below h hb hB
theorem Strs.base {w : World} {base base' : Nat} {v : Value} {ws : List Bs} (h : Strs w base v ws) (hb : base' ≤ base) : Strs w base' v ws := own_base h hb
theorem Lns.below {w w' : World} {base B : Nat} {L : List Ln} {cs : List Value} (h : Lns w base L cs) (hb : Below B w w') (hB : w.heap.size ≤ B) : Lns w' base L cs := fun j m ws hj => by
  obtain ⟨h1, v, h2, h3⟩ := h j m ws hj
  exact ⟨h1, v, h2, h3.below hb hB⟩
theorem IsLines.below {T : TypeId} {w w' : World} {base B : Nat} {v : Value} {L : List Ln} (h : IsLines T w base v L) (hb : Below B w w') (hB : w.heap.size ≤ B) : IsLines T w' base v L := by
  obtain ⟨cs, h1, h2⟩ := h
  exact ⟨cs, own_below h1 hb hB, h2.below hb hB⟩
theorem IsLines.nil (T : TypeId) (w : World) (base : Nat) : IsLines T w base (.slice none 0 0) [] := ⟨[], World.ownsRow_nil _ _ _ _, fun j m ws hj => by simp at hj⟩
theorem Strs.nil (w : World) (base : Nat) : Strs w base (.slice none 0 0) [] := World.ownsRow_nil _ _ _ _
theorem Lns.grown {T : TypeId} {w w' : World} {base n : Nat} {v : Value} {xs : List Value} {L : List Ln} {cs : List Value} (h : Lns w base L cs) (hT : T ≠ 9) (hv : w.ownsRow base T 2 v n xs) (hg : w.grownBy w' v.ownBlock) : Lns w' base L cs := fun j m ws hj => by
  obtain ⟨h1, u, h2, h3⟩ := h j m ws hj
  exact ⟨h1, u, h2, World.ownsRow.kept h3 hg (own_types h3 hv (Ne.symm hT))⟩
theorem Lns.snoc {w : World} {base : Nat} {L : List Ln} {cs : List Value} (h : Lns w base L cs) (hl : cs.length = L.length * 2) {m : Nat} {ws : List Bs} {v : Value} (hv : Strs w base v ws) : Lns w base (L ++ [(m, ws)]) (cs ++ [.int .i64 m, v]) := fun j m' ws' hj => by
  rcases Nat.lt_or_ge j L.length with hlt | hge
  · rw [List.getElem?_append_left hlt] at hj
    obtain ⟨h1, u, h2, h3⟩ := h j m' ws' hj
    refine ⟨?_, u, ?_, h3⟩
    · rw [List.getElem?_append_left (by omega)]; exact h1
    · rw [List.getElem?_append_left (by omega)]; exact h2
  · have hj0 : j = L.length := by
      have := (List.getElem?_eq_some_iff.1 hj).1
      simp at this; omega
    subst hj0
    simp at hj
    obtain ⟨rfl, rfl⟩ := hj
    refine ⟨?_, v, ?_, hv⟩
    · rw [List.getElem?_append_right (by omega)]; simp [show 2 * L.length - cs.length = 0 by omega]
    · rw [List.getElem?_append_right (by omega)]; simp [show 2 * L.length + 1 - cs.length = 1 by omega]
theorem IsLines.base {T : TypeId} {w : World} {base base' : Nat} {v : Value} {L : List Ln} (h : IsLines T w base v L) (hb : base' ≤ base) : IsLines T w base' v L := by
  obtain ⟨cs, h1, h2⟩ := h
  refine ⟨cs, own_base h1 hb, fun j m ws hj => ?_⟩
  obtain ⟨e1, u, e2, e3⟩ := h2 j m ws hj
  exact ⟨e1, u, e2, e3.base hb⟩
theorem cell_two (w : World) (x y : Value) (t : TypeId) : ∀ j u, [x, y][j]? = some u → (w.alloc (.cells #[x, y] t)).cell? ((⟨w.heap.size, 0, none⟩ : Addr).add j) = some u := by
  intro j u hj
  match j, hj with
  | 0, hj => simp at hj; subst hj; simp [Addr.add]
  | 1, hj => simp at hj; subst hj; simp [Addr.add]
  | (j + 2), hj => simp at hj
/-- Behind an append of one line. -/
theorem lines_after {T : TypeId} {w3 w4 : World} {b k : Nat} {v v' u : Value} {acc : List Ln} {cs : List Value} {ws : List Bs} {o : Obj} (hT : T ≠ 9) (hown : w3.ownsRow b T 2 v acc.length cs) (hln : Lns w3 b acc cs) (hu : Strs w3 b u ws)
    (h' : w4.ownsRow b T 2 v' (acc.length + 1) (cs ++ [.int .i64 k, u])) (hg : (w3.alloc o).grownBy w4 v.ownBlock) : IsLines T w4 b v' (acc ++ [(k, ws)]) := by
  refine ⟨_, by simpa using h', ?_⟩
  have ha : Below w3.heap.size w3 (w3.alloc o) := (Below.refl _ _).alloc (Nat.le_refl _) _
  have h1 : Lns (w3.alloc o) b acc cs := hln.below ha (Nat.le_refl _)
  have h2 : (w3.alloc o).ownsRow b T 2 v acc.length cs := own_below hown ha (Nat.le_refl _)
  have h3 : Strs (w3.alloc o) b u ws := hu.below ha (Nat.le_refl _)
  exact Lns.snoc (h1.grown hT h2 hg) hown.1 (World.ownsRow.kept h3 hg (own_types h3 h2 (Ne.symm hT)))
/-- A line of lines: its number's cell, its words' cell, and they. -/
theorem IsLines.at_ {T : TypeId} {w : World} {base : Nat} {v : Value} {L : List Ln} (h : IsLines T w base v L) (hn : 0 < L.length) : ∃ g c, v = .slice (some ⟨g, 0, none⟩) L.length c ∧ L.length ≤ c ∧ g < w.heap.size ∧ ∀ (j m : Nat) (ws : List Bs), L[j]? = some (m, ws) → w.cell? ⟨g, 2 * j, none⟩ = some (.int .i64 m) ∧ ∃ u, w.cell? ⟨g, 2 * j + 1, none⟩ = some u ∧ Strs w base u ws := by
  obtain ⟨cs, h1, h2⟩ := h
  obtain ⟨g, c, rfl, hc, hg, _, hcell⟩ := own_cells h1 hn
  refine ⟨g, c, rfl, hc, hg, fun j m ws hj => ?_⟩
  obtain ⟨e1, u, e2, e3⟩ := h2 j m ws hj
  exact ⟨hcell _ _ e1, u, hcell _ _ e2, e3⟩
theorem IsLines.len {T : TypeId} {w : World} {base : Nat} {v : Value} {L : List Ln} (h : IsLines T w base v L) : ∃ A c, v = .slice A L.length c ∧ L.length ≤ c := by
  obtain ⟨cs, h1, h2⟩ := h; exact own_len h1
theorem Strs.len {w : World} {base : Nat} {v : Value} {ws : List Bs} (h : Strs w base v ws) : ∃ A c, v = .slice A ws.length c ∧ ws.length ≤ c := own_len h
theorem Strs.at_ {w : World} {base : Nat} {v : Value} {ws : List Bs} (h : Strs w base v ws) (hn : 0 < ws.length) : ∃ g c, v = .slice (some ⟨g, 0, none⟩) ws.length c ∧ ws.length ≤ c ∧ g < w.heap.size ∧ ∀ (j : Nat) (l : Bs), ws[j]? = some l → w.cell? ⟨g, j, none⟩ = some (Str l) := by
  obtain ⟨g, c, hv, hc, hg, _, hcell⟩ := own_cells h hn
  exact ⟨g, c, hv, hc, hg, fun j l hj => hcell j _ (by rw [List.getElem?_map, hj]; rfl)⟩
end Go.Proofs.Lx
