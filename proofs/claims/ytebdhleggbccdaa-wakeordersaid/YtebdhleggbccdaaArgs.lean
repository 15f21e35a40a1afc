/- The laws' arguments opened: slices of integers, of acts. -/
import Derived.Test.YtebdhleggbccdaaRows
import Derived.Test.YtebdhleggbccdaaMem
import Derived.ChangeSame
import Derived.OpenShut
import Derived.Lib.SmallJoins
import Derived.Deep.Slices
namespace Go.Proofs.Ytebdhleggbccdaa
open Go.Joins Go.ChangeShapes Go.WideShapes Go.RowKit Go.Deep

theorem add_add (x : Addr) (i j : Nat) : (x.add i).add j = x.add (i + j) := by
  by_cases h1 : i = 0 <;> by_cases h2 : j = 0 <;> simp [Addr.add, h1, h2, Nat.add_assoc]
theorem plain_of {w : World} {x : Addr} {u : Value} (h : w.cell? (x.add 0) = some u) : ∃ g o, x = ⟨g, o, none⟩ := by
  obtain ⟨g, off, spot⟩ := x
  have hspot : spot = none := by simpa [Addr.add] using World.cell?_spot h
  subst hspot
  exact ⟨g, off, rfl⟩

/-- A slice of integers that came in. -/
def IntsIn (k : IntKind) (w : World) (a : Option Addr) (len cap : Nat) : Prop :=
  len ≤ cap ∧ cap ≤ maxLen ∧ ∃ xs : List Int, xs.length = len ∧ (∀ x ∈ xs, (Lit.int k x).wf = true) ∧ (0 < len → ∃ g o, a = some ⟨g, o, none⟩ ∧ g < w.heap.size ∧ ∀ (j : Nat) (x : Int), xs[j]? = some x → w.cell? ⟨g, o + j, none⟩ = some (.int k x))
section
variable {H : Type} {enc : TypeId × Value → H} {w : World} {base : Nat} {spare : Nat → Bool} {held : Bool} {a : Option Addr} {len cap : Nat} {d : DataW H} {ps : List MemPlace}
theorem open_ints_in {t e : TypeId} {k : IntKind} (ht : Try.prog.underlying t = some (.slice e)) (he : Try.prog.underlying e = some (.int k)) (hc : Try.prog.cellsOf e = 1)
    (h : DataW.Trod enc Try.prog w base spare held t (.slice a len cap) d ps) : IntsIn k w a len cap := by
  obtain ⟨fuel, hf⟩ := h
  rcases open_ints ht he hc hf with ⟨hcs, _⟩ | ⟨x, l, c, zs, hcs, _, hl, hm, hz, _, hcell, hwz⟩
  · simp [Value.cells] at hcs
    obtain ⟨rfl, rfl, rfl⟩ := hcs
    exact ⟨Nat.le_refl _, by unfold maxLen; omega, [], rfl, (fun x hx => by cases hx), fun h => by omega⟩
  · simp [Value.cells] at hcs
    obtain ⟨rfl, rfl, rfl⟩ := hcs
    have hzl : len ≤ zs.length := by rw [hz]; split <;> omega
    refine ⟨hl, hm, zs.take len, by simp; omega, fun x hx => hwz x (List.mem_of_mem_take hx), fun h0 => ?_⟩
    obtain ⟨g, o, rfl⟩ := plain_of (hcell 0 (by omega))
    have hlt := World.block_lt_of_cell? _ _ (hcell 0 (by omega))
    rw [add_none] at hlt
    refine ⟨g, o, rfl, hlt, fun j y hj => ?_⟩
    have hj1 : j < len := by
      have := (List.getElem?_eq_some_iff.1 hj).1
      simp at this; omega
    have hz2 : zs[j]? = some y := by simp only [List.getElem?_take, if_pos hj1] at hj; exact hj
    have := hcell j (by omega)
    rw [add_none] at this
    rw [this, List.getD, hz2]
    rfl
end
/-- A choice for each of the first so many. -/
theorem pick_list {α : Type} (p : Nat → α → Prop) : ∀ n, (∀ t, t < n → ∃ x, p t x) → ∃ l : List α, l.length = n ∧ ∀ t x, l[t]? = some x → p t x
  | 0, _ => ⟨[], rfl, fun _ _ h => by simp at h⟩
  | n + 1, h => by
    obtain ⟨l, hl, hp⟩ := pick_list p n fun t ht => h t (by omega)
    obtain ⟨x, hx⟩ := h n (by omega)
    refine ⟨l ++ [x], by simp [hl], fun t y hy => ?_⟩
    by_cases ht : t < l.length
    · rw [List.getElem?_append_left ht] at hy
      exact hp t y hy
    · rw [List.getElem?_append_right (by omega)] at hy
      have h0 : t - l.length = 0 := by
        rcases Nat.eq_zero_or_pos (t - l.length) with h0 | h0
        · exact h0
        · rw [List.getElem?_eq_none (by simp; omega)] at hy; cases hy
      rw [h0] at hy
      simp at hy
      subst hy
      obtain rfl : t = n := by omega
      exact hx
/-- An act: its kind, its key, its number. -/
structure Ac where
  k : Int
  s : ByteArray
  a : Int
structure Ac.In (t : Ac) : Prop where
  s1 : t.s.size ≤ maxLen
  a1 : (Lit.int .i64 t.a).wf = true
/-- Acts that lie somewhere. -/
structure Acs (w : World) (A : Option Addr) (zs : List Ac) : Prop where
  ok : ∀ z ∈ zs, z.In
  at' : ∀ t z, zs[t]? = some z → ∃ g o, A = some ⟨g, o, none⟩ ∧ g < w.heap.size ∧ w.cell? ⟨g, o + t * 3, none⟩ = some (.int .i64 z.k) ∧ w.cell? ⟨g, o + t * 3 + 1, none⟩ = some (.string z.s) ∧ w.cell? ⟨g, o + t * 3 + 2, none⟩ = some (.int .i64 z.a)
theorem Acs.later {w w' : World} {A : Option Addr} {zs : List Ac} (h : Acs w A zs) (hb : Below w.heap.size w w') : Acs w' A zs :=
  ⟨h.ok, fun t z hz => by
    obtain ⟨g, o, e, hg, c0, c1, c2⟩ := h.at' t z hz
    exact ⟨g, o, e, by have := hb.size; omega, (hb.cell (p := ⟨g, _, none⟩) hg).trans c0, (hb.cell (p := ⟨g, _, none⟩) hg).trans c1, (hb.cell (p := ⟨g, _, none⟩) hg).trans c2⟩⟩
def ActsIn (w : World) (A : Option Addr) (len cap : Nat) : Prop := len ≤ cap ∧ cap ≤ maxLen ∧ ∃ zs : List Ac, zs.length = len ∧ Acs w A zs
theorem cells31 : Try.prog.cellsOf 31 = 3 := by kernel_rfl
set_option maxRecDepth 100000 in
theorem open_acts_in {H : Type} {enc : TypeId × Value → H} {w : World} {base : Nat} {spare : Nat → Bool} {held : Bool} {a : Option Addr} {len cap : Nat} {d : DataW H} {ps : List MemPlace}
    (h : DataW.Trod enc Try.prog w base spare held 22 (.slice a len cap) d ps) : ActsIn w a len cap := by
  obtain ⟨fuel, hf⟩ := h
  rcases open_slice Try.underlying22 hf with ⟨hcs, _⟩ | ⟨x, l, c, m, n, D, Pl, hcs, _, hl, hm, hmm, _, hx⟩
  · simp [Value.cells] at hcs
    obtain ⟨rfl, rfl, rfl⟩ := hcs
    exact ⟨Nat.le_refl _, by unfold maxLen; omega, [], rfl, ⟨fun z hz => (by cases hz), fun t z hz => by simp at hz⟩⟩
  · simp [Value.cells] at hcs
    obtain ⟨rfl, rfl, rfl⟩ := hcs
    have hlm : len ≤ m := by rw [hmm]; split <;> omega
    have each : ∀ i, i < len → ∃ z : Ac, z.In ∧ w.cell? (x.add (i * 3)) = some (.int .i64 z.k) ∧ w.cell? (x.add (i * 3 + 1)) = some (.string z.s) ∧ w.cell? (x.add (i * 3 + 2)) = some (.int .i64 z.a) := by
      intro i hi
      obtain ⟨cs', h1, h2⟩ := hx i (by omega)
      rw [cells31] at h1
      obtain ⟨_, hlen, hcell⟩ := World.cells?_some h1
      obtain ⟨xs, k, _, _, _, hxl, hg⟩ := DataW.trod_struct Try.underlying31 h2
      match xs, hxl, cs', hlen with
      | [y0, y1, y2], _, [v0, v1, v2], _ =>
        have g0 : DataW.trod enc Try.prog w base spare held k 3 [v0] = some y0 := hg 0 _ rfl
        have g1 : DataW.trod enc Try.prog w base spare held k 9 [v1] = some y1 := hg 1 _ rfl
        have g2 : DataW.trod enc Try.prog w base spare held k 2 [v2] = some y2 := hg 2 _ rfl
        obtain ⟨a0, e0, _, _⟩ := DataW.trod_int Try.underlying3 g0
        obtain ⟨a1, e1, _, s1⟩ := DataW.trod_string Try.underlying9 g1
        obtain ⟨a2, e2, _, w2⟩ := DataW.trod_int Try.underlying2 g2
        obtain rfl : v0 = .int .i64 a0 := by simpa using e0
        obtain rfl : v1 = .string a1 := by simpa using e1
        obtain rfl : v2 = .int .i64 a2 := by simpa using e2
        have c0 := hcell 0 (by omega)
        have c1 := hcell 1 (by omega)
        have c2 := hcell 2 (by omega)
        rw [add_add] at c0 c1 c2
        exact ⟨⟨a0, a1, a2⟩, ⟨s1, w2⟩, by simpa using c0, by simpa using c1, by simpa using c2⟩
    obtain ⟨zs, hzl, hzs⟩ := pick_list _ len each
    refine ⟨hl, hm, zs, hzl, ⟨fun z hz => ?_, fun t z hz => ?_⟩⟩
    · obtain ⟨t, ht, rfl⟩ := List.getElem_of_mem hz
      exact (hzs t _ (List.getElem?_eq_getElem ht)).1
    · obtain ⟨_, c0, c1, c2⟩ := hzs t z hz
      have ht := (List.getElem?_eq_some_iff.1 hz).1
      obtain ⟨_, _, d0, _⟩ := each 0 (by omega)
      obtain ⟨g, off, rfl⟩ := plain_of (by simpa using d0)
      have hlt := World.block_lt_of_cell? _ _ c0
      rw [add_none] at c0 c1 c2 hlt
      exact ⟨g, off, rfl, hlt, c0, by simpa [Nat.add_assoc] using c1, by simpa [Nat.add_assoc] using c2⟩
end Go.Proofs.Ytebdhleggbccdaa
