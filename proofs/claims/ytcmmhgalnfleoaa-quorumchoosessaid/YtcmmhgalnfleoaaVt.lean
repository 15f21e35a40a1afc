/- Votes as plain lists, and in memory: what of stores, and of offsets, they are; what is chosen. -/
import Derived.Test.YtcmmhgalnfleoaaLnew
import Derived.Test.YtcmmhgalnfleoaaFr
import Derived.Deep.AppendLies
namespace Go.Proofs.Ytcmmhgalnfleoaa
open Go.RowKit

/-- A vote: the server's place, its sample, its offset. -/
structure Vt where
  s : Int
  p : Sm
  o : Int
abbrev Vt.cells (v : Vt) : List Value := [.int .i64 v.s, .int .i64 v.p.o, .int .i64 v.p.d, .int .i64 v.p.t, .int .i64 v.p.s, .int .i64 v.o]
def vflat : List Vt → List Value
  | [] => []
  | v :: l => v.cells ++ vflat l
theorem vflat_append : ∀ a b : List Vt, vflat (a ++ b) = vflat a ++ vflat b
  | [], b => rfl
  | p :: a, b => by rw [List.cons_append, vflat, vflat, vflat_append a b, List.append_assoc]
theorem vflat_one (v : Vt) : vflat [v] = v.cells := by simp [vflat]
theorem length_vflat : ∀ l : List Vt, (vflat l).length = l.length * 6
  | [] => rfl
  | p :: l => by rw [vflat, List.length_append, length_vflat l, List.length_cons]; simp; omega
theorem vflat_get : ∀ (l : List Vt) (k j : Nat) (p : Vt), l[k]? = some p → j < 6 → (vflat l)[k * 6 + j]? = p.cells[j]?
  | [], k, j, p, h, _ => by simp at h
  | q :: l, 0, j, p, h, hj => by
    simp at h
    subst h
    rw [vflat, List.getElem?_append_left (by simp; omega)]
    simp
  | q :: l, k + 1, j, p, h, hj => by
    simp at h
    rw [vflat, List.getElem?_append_right (by simp; omega), show (k + 1) * 6 + j - q.cells.length = k * 6 + j by simp; omega]
    exact vflat_get l k j p h hj
theorem vflat_one' (v : Vt) : ∀ u ∈ v.cells, u.oneCell' = true := by simp [Value.oneCell']

/-- Votes that lie somewhere. -/
def Vts (w : World) (A : Option Addr) (l : List Vt) : Prop := Lies w A (vflat l)
theorem Vts.later {w w' : World} {A : Option Addr} {l : List Vt} (h : Vts w A l) (hb : Below w.heap.size w w') : Vts w' A l := Lies.later h hb
theorem Vts.at6 {w : World} {A : Option Addr} {l : List Vt} {k : Nat} {p : Vt} (h : Vts w A l) (hk : l[k]? = some p) : ∃ g o, A = some ⟨g, o, none⟩ ∧ g < w.heap.size ∧
    w.cell? ⟨g, o + k * 6, none⟩ = some (.int .i64 p.s) ∧ w.cell? ⟨g, o + k * 6 + 1, none⟩ = some (.int .i64 p.p.o) ∧ w.cell? ⟨g, o + k * 6 + 2, none⟩ = some (.int .i64 p.p.d) ∧ w.cell? ⟨g, o + k * 6 + 3, none⟩ = some (.int .i64 p.p.t) ∧ w.cell? ⟨g, o + k * 6 + 4, none⟩ = some (.int .i64 p.p.s) ∧ w.cell? ⟨g, o + k * 6 + 5, none⟩ = some (.int .i64 p.o) := by
  have hlt := (List.getElem?_eq_some_iff.1 hk).1
  obtain ⟨g, o, e, hg, hc⟩ := Lies.open h (by rw [length_vflat]; omega)
  refine ⟨g, o, e, hg, ?_, ?_, ?_, ?_, ?_, ?_⟩
  · exact hc (k * 6 + 0) _ (vflat_get l k 0 p hk (by omega))
  · exact hc (k * 6 + 1) _ (vflat_get l k 1 p hk (by omega))
  · exact hc (k * 6 + 2) _ (vflat_get l k 2 p hk (by omega))
  · exact hc (k * 6 + 3) _ (vflat_get l k 3 p hk (by omega))
  · exact hc (k * 6 + 4) _ (vflat_get l k 4 p hk (by omega))
  · exact hc (k * 6 + 5) _ (vflat_get l k 5 p hk (by omega))
theorem lies_own6 {w : World} {base e sz n c : Nat} {A : Option Addr} {cs : List Value} (h : w.ownsRow base e sz (.slice A n c) n cs) : Lies w A cs := by
  rcases h.2 with ⟨e1, h0⟩ | ⟨g, cap, cur, e1, hb, hg, rest⟩
  · subst h0
    exact .inl (List.eq_nil_of_length_eq_zero (by have := h.1; omega))
  · injection e1 with e1 _ e3
    subst e1 e3
    exact .inr ⟨g, 0, rfl, heap_lt hg, fun j v hv => by rw [Nat.zero_add]; exact (h.cellAt j (by have := (List.getElem?_eq_some_iff.1 hv).1; have := h.1; omega)).trans hv⟩

/-- The votes of offsets, from a place on. -/
def mkv : Nat → List Int → List Vt
  | _, [] => []
  | i, x :: l => ⟨i, Sm.zero, x⟩ :: mkv (i + 1) l
theorem mkv_snoc : ∀ (l : List Int) (i : Nat) (x : Int), mkv i (l ++ [x]) = mkv i l ++ [⟨(i + l.length : Nat), Sm.zero, x⟩]
  | [], i, x => rfl
  | y :: l, i, x => by
    rw [List.cons_append, mkv, mkv, mkv_snoc l (i + 1) x, List.cons_append, List.length_cons, show i + 1 + l.length = i + (l.length + 1) by omega]
theorem mkv_o : ∀ (l : List Int) (i : Nat), (mkv i l).map Vt.o = l
  | [], _ => rfl
  | y :: l, i => by rw [mkv, List.map_cons, mkv_o l (i + 1)]
theorem length_mkv (l : List Int) (i : Nat) : (mkv i l).length = l.length := by rw [← congrArg List.length (mkv_o l i), List.length_map]

/-- The votes of stores that keep so much, from a place on. -/
def vts (h life n : Int) : Nat → List (List Sm) → List Vt
  | _, [] => []
  | i, L :: l => (match bestOf h life L with | none => [] | some p => [⟨i, p, nowOf p.o p.s n⟩]) ++ vts h life n (i + 1) l
theorem vts_snoc (h life n : Int) : ∀ (l : List (List Sm)) (i : Nat) (L : List Sm), vts h life n i (l ++ [L]) = vts h life n i l ++ (match bestOf h life L with | none => [] | some p => [⟨(i + l.length : Nat), p, nowOf p.o p.s n⟩])
  | [], i, L => by simp [vts]
  | y :: l, i, L => by
    rw [List.cons_append, vts, vts, vts_snoc h life n l (i + 1) L, List.length_cons, show i + 1 + l.length = i + (l.length + 1) by omega, List.append_assoc]
theorem vts_len (h life n : Int) : ∀ (l : List (List Sm)) (i : Nat), (vts h life n i l).length ≤ l.length
  | [], _ => Nat.le_refl _
  | L :: l, i => by
    have := vts_len h life n l (i + 1)
    rw [vts, List.length_append, List.length_cons]
    cases bestOf h life L <;> simp <;> omega

/-- What is chosen of offsets, and the error's number. -/
def cho (q : Int) (l : List Int) : Int := if q < 1 then 0 else if (l.length : Int) < q then 0 else mid l
def choE (q : Int) (n : Nat) : Int := if q < 1 then 3 else if (n : Int) < q then 13 else 0
theorem cho_low {q : Int} (l : List Int) (h : q < 1) : cho q l = 0 ∧ choE q l.length = 3 := by unfold cho choE; rw [if_pos h, if_pos h]; exact ⟨rfl, rfl⟩
theorem cho_few {q : Int} {l : List Int} (h : ¬ q < 1) (h2 : (l.length : Int) < q) : cho q l = 0 ∧ choE q l.length = 13 := by unfold cho choE; rw [if_neg h, if_neg h, if_pos h2, if_pos h2]; exact ⟨rfl, rfl⟩
theorem cho_ok {q : Int} {l : List Int} (h : ¬ q < 1) (h2 : ¬ (l.length : Int) < q) : cho q l = mid l ∧ choE q l.length = 0 := by unfold cho choE; rw [if_neg h, if_neg h, if_neg h2, if_neg h2]; exact ⟨rfl, rfl⟩

/-- Behind an append to a row of the call's own. -/
theorem bel_grown6 {w w1 w2 : World} {v : Value} {base e sz n : Nat} {xs : List Value} (h : Below w.heap.size w w1) (hv : w1.ownsRow base e sz v n xs) (hb : w.heap.size ≤ base) (g : w1.grownBy w2 v.ownBlock) : Below w.heap.size w w2 :=
  ⟨g.os.trans h.os, g.tape.trans h.tape, g.output.trans h.output, Nat.le_trans h.size g.size, fun j hj => (g.block j (by have := h.size; omega) (fun e => by have := (own_lt hv e.symm).1; omega)).trans (h.block j hj)⟩
end Go.Proofs.Ytcmmhgalnfleoaa
