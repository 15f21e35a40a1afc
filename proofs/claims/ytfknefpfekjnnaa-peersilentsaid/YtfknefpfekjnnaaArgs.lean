/- The laws' arguments opened: a config by value, slices of integers, of bytes, of acts. -/
import Derived.Test.YtfknefpfekjnnaaRows
import Derived.Test.YtfknefpfekjnnaaOpen
import Derived.Test.YtfknefpfekjnnaaNames
import Derived.Test.YtfknefpfekjnnaaCf
import Derived.ChangeSame
import Derived.OpenShut
import Derived.Lib.SmallJoins
import Derived.Deep.Slices
namespace Go.Proofs.Ytfknefpfekjnnaa
open Go.Joins Go.ChangeShapes Go.WideShapes Go.RowKit Go.Deep

theorem add_none (g o t : Nat) : (⟨g, o, none⟩ : Addr).add t = ⟨g, o + t, none⟩ := by unfold Addr.add; split <;> simp_all
theorem add_add (x : Addr) (i j : Nat) : (x.add i).add j = x.add (i + j) := by
  by_cases h1 : i = 0 <;> by_cases h2 : j = 0 <;> simp [Addr.add, h1, h2, Nat.add_assoc]
theorem plain_of {w : World} {x : Addr} {u : Value} (h : w.cell? (x.add 0) = some u) : ∃ g o, x = ⟨g, o, none⟩ := by
  obtain ⟨g, off, spot⟩ := x
  have hspot : spot = none := by simpa [Addr.add] using World.cell?_spot h
  subst hspot
  exact ⟨g, off, rfl⟩

/-- A slice of integers that came in. -/
def IntsIn (k : IntKind) (w : World) (a : Option Addr) (len cap : Nat) : Prop :=
  len ≤ cap ∧ cap ≤ maxLen ∧ ∃ xs : List Int, xs.length = len ∧ (∀ x ∈ xs, (Lit.int k x).wf = true) ∧ (0 < len → ∃ g o, a = some ⟨g, o, none⟩ ∧ g < w.heap.size ∧ ∀ (j : Nat) (x : Int), xs[j]? = some x → w.cell? ⟨g, o + j, none⟩ = some (.int k x))
section
variable {H : Type} {enc : TypeId × Value → H} {w : World} {base : Nat} {spare : Nat → Bool} {held : Bool} {a : Option Addr} {len cap : Nat} {d : DataW H} {ps : List MemPlace}
theorem open_ints_in {t e : TypeId} {k : IntKind} (ht : Try.prog.underlying t = some (.slice e)) (he : Try.prog.underlying e = some (.int k)) (hc : Try.prog.cellsOf e = 1)
    (h : DataW.Trod enc Try.prog w base spare held t (.slice a len cap) d ps) : IntsIn k w a len cap := by
  obtain ⟨fuel, hf⟩ := h
  rcases open_ints ht he hc hf with ⟨hcs, _⟩ | ⟨x, l, c, zs, hcs, _, hl, hm, hz, _, hcell, hwz⟩
  · simp [Value.cells] at hcs
    obtain ⟨rfl, rfl, rfl⟩ := hcs
    exact ⟨Nat.le_refl _, by unfold maxLen; omega, [], rfl, (fun x hx => by cases hx), fun h => by omega⟩
  · simp [Value.cells] at hcs
    obtain ⟨rfl, rfl, rfl⟩ := hcs
    have hzl : len ≤ zs.length := by rw [hz]; split <;> omega
    refine ⟨hl, hm, zs.take len, by simp; omega, fun x hx => hwz x (List.mem_of_mem_take hx), fun h0 => ?_⟩
    obtain ⟨g, o, rfl⟩ := plain_of (hcell 0 (by omega))
    have hlt := World.block_lt_of_cell? _ _ (hcell 0 (by omega))
    rw [add_none] at hlt
    refine ⟨g, o, rfl, hlt, fun j y hj => ?_⟩
    have hj1 : j < len := by
      have := (List.getElem?_eq_some_iff.1 hj).1
      simp at this; omega
    have hz2 : zs[j]? = some y := by simp only [List.getElem?_take, if_pos hj1] at hj; exact hj
    have := hcell j (by omega)
    rw [add_none] at this
    rw [this, List.getD, hz2]
    rfl
end
/-- A config that came in. -/
structure CfIn (w : World) (u : Value) (c : Cfg) : Prop where
  S : Ints w u c.S
  q1 : -9223372036854775808 ≤ c.q ∧ c.q ≤ 9223372036854775807
  l1 : -9223372036854775808 ≤ c.l ∧ c.l ≤ 9223372036854775807
  m1 : -9223372036854775808 ≤ c.m ∧ c.m ≤ 9223372036854775807
  d1 : -9223372036854775808 ≤ c.d ∧ c.d ≤ 9223372036854775807
  s1 : -9223372036854775808 ≤ c.s ∧ c.s ≤ 9223372036854775807
  len : c.S.length ≤ maxLen
theorem cells24 : Try.prog.cellsOf 24 = 6 := by kernel_rfl
theorem list6 {α : Type} (l : List α) (h : l.length = 6) : ∃ c0 c1 c2 c3 c4 c5, l = [c0, c1, c2, c3, c4, c5] := by
  match l, h with
  | [c0, c1, c2, c3, c4, c5], _ => exact ⟨c0, c1, c2, c3, c4, c5, rfl⟩
set_option maxRecDepth 100000 in
theorem open_cfg {H : Type} {enc : TypeId × Value → H} {w : World} {b0 base : Nat} {spare : Nat → Bool} {held : Bool} {r : Reach} {v : Value} {d : DataW H} {ps : List MemPlace} (hv : Value.okWide Try.prog w r b0 24 v) (h : DataW.Trod enc Try.prog w base spare held 24 v d ps) : ∃ u c, v = cval u c ∧ CfIn w u c := by
  obtain ⟨cs, rfl, hsz⟩ := okWide_struct Try.underlying24 hv
  obtain ⟨l⟩ := cs
  obtain ⟨c0, c1, c2, c3, c4, c5, rfl⟩ := list6 l (by have := hsz.trans cells24; simpa using this)
  obtain ⟨fuel, hf⟩ := h
  obtain ⟨xs, m, _, hx, _, hlen, hg⟩ := DataW.trod_struct Try.underlying24 hf
  have g0 : DataW.trod enc Try.prog w base spare held m 22 [c0] = xs[0]? := hg 0 _ rfl
  obtain ⟨y0, hy0⟩ : ∃ y, xs[0]? = some y := ⟨xs[0]'(by have : xs.length = 6 := hlen; omega), List.getElem?_eq_getElem _⟩
  have ints : ∀ (j : Nat) (hj : j < 6) (c : Value), DataW.trod enc Try.prog w base spare held m 3 [c] = xs[j]? → ∃ a, c = .int .i64 a ∧ -9223372036854775808 ≤ a ∧ a ≤ 9223372036854775807 := by
    intro j hj c g
    obtain ⟨y, hy⟩ : ∃ y, xs[j]? = some y := ⟨xs[j]'(by have : xs.length = 6 := hlen; omega), List.getElem?_eq_getElem _⟩
    obtain ⟨a, e, _, w⟩ := DataW.trod_int Try.underlying3 (g.trans hy)
    exact ⟨a, by simpa using e, bounds_i64 w⟩
  obtain ⟨a1, rfl, w1⟩ := ints 1 (by omega) c1 (hg 1 _ rfl)
  obtain ⟨a2, rfl, w2⟩ := ints 2 (by omega) c2 (hg 2 _ rfl)
  obtain ⟨a3, rfl, w3⟩ := ints 3 (by omega) c3 (hg 3 _ rfl)
  obtain ⟨a4, rfl, w4⟩ := ints 4 (by omega) c4 (hg 4 _ rfl)
  obtain ⟨a5, rfl, w5⟩ := ints 5 (by omega) c5 (hg 5 _ rfl)
  rcases open_ints Try.underlying22 Try.underlying3 (by kernel_rfl) (g0.trans hy0) with ⟨hcs, _⟩ | ⟨a, len, cap, zs, hcs, _, hl, hm, hz, _, hcell, hwz⟩
  · obtain rfl : c0 = .slice none 0 0 := by simpa using hcs
    exact ⟨_, ⟨[], a1, a2, a3, a4, a5⟩, rfl, ⟨Ints.nil _, w1, w2, w3, w4, w5, by simp⟩⟩
  · obtain rfl : c0 = .slice (some a) len cap := by simpa using hcs
    have hzl : len ≤ zs.length := by rw [hz]; split <;> omega
    have hlen2 : (zs.take len).length = len := by simp; omega
    refine ⟨_, ⟨zs.take len, a1, a2, a3, a4, a5⟩, rfl, ⟨⟨some a, cap, by show _ = Value.slice (some a) (zs.take len).length cap; rw [hlen2], by show (zs.take len).length ≤ cap; rw [hlen2]; exact hl, fun h0 => ?_⟩, w1, w2, w3, w4, w5, by show (zs.take len).length ≤ maxLen; rw [hlen2]; omega⟩⟩
    replace h0 : 0 < len := by have h1 : 0 < (zs.take len).length := h0; rw [hlen2] at h1; exact h1
    obtain ⟨g, o, rfl⟩ := plain_of (hcell 0 (by omega))
    have hlt := World.block_lt_of_cell? _ _ (hcell 0 (by omega))
    rw [add_none] at hlt
    refine ⟨g, o, rfl, hlt, fun j y hj => ?_⟩
    replace hj : (zs.take len)[j]? = some y := hj
    have hj1 : j < len := by
      have := (List.getElem?_eq_some_iff.1 hj).1
      omega
    have hz2 : zs[j]? = some y := by simp only [List.getElem?_take, if_pos hj1] at hj; exact hj
    have := hcell j (by omega)
    rw [add_none] at this
    rw [this, List.getD, hz2]
    rfl
/-- A choice for each of the first so many. -/
theorem pick_list {α : Type} (p : Nat → α → Prop) : ∀ n, (∀ t, t < n → ∃ x, p t x) → ∃ l : List α, l.length = n ∧ ∀ t x, l[t]? = some x → p t x
  | 0, _ => ⟨[], rfl, fun _ _ h => by simp at h⟩
  | n + 1, h => by
    obtain ⟨l, hl, hp⟩ := pick_list p n fun t ht => h t (by omega)
    obtain ⟨x, hx⟩ := h n (by omega)
    refine ⟨l ++ [x], by simp [hl], fun t y hy => ?_⟩
    by_cases ht : t < l.length
    · rw [List.getElem?_append_left ht] at hy
      exact hp t y hy
    · rw [List.getElem?_append_right (by omega)] at hy
      have h0 : t - l.length = 0 := by
        rcases Nat.eq_zero_or_pos (t - l.length) with h0 | h0
        · exact h0
        · rw [List.getElem?_eq_none (by simp; omega)] at hy; cases hy
      rw [h0] at hy
      simp at hy
      subst hy
      obtain rfl : t = n := by omega
      exact hx
/-- An act: its kind, reading, time, cookie and bytes. -/
structure Ac where
  k : Int
  h : Int
  c : Int
  x : Int
  A : Option Addr
  n : Nat
  p : Nat
  z : List Int
structure Ac.In (w : World) (t : Ac) : Prop where
  k1 : -9223372036854775808 ≤ t.k ∧ t.k ≤ 9223372036854775807
  h1 : -9223372036854775808 ≤ t.h ∧ t.h ≤ 9223372036854775807
  c1 : -9223372036854775808 ≤ t.c ∧ t.c ≤ 9223372036854775807
  x1 : 0 ≤ t.x ∧ t.x ≤ 18446744073709551615
  z1 : Bytes w t.A t.n t.p t.z
theorem Ac.In.below {w w' : World} {t : Ac} (h : t.In w) (hb : Below w.heap.size w w') : t.In w' := ⟨h.k1, h.h1, h.c1, h.x1, bytes_below h.z1 hb⟩
/-- Acts that lie somewhere. -/
def Acs (w : World) (a : Option Addr) (L : List Ac) : Prop := ∀ (j : Nat) (t : Ac), L[j]? = some t → t.In w ∧ ∃ g o, a = some ⟨g, o, none⟩ ∧ g < w.heap.size ∧ w.cell? ⟨g, o + j * 5, none⟩ = some (.int .i64 t.k) ∧ w.cell? ⟨g, o + j * 5 + 1, none⟩ = some (.int .i64 t.h) ∧ w.cell? ⟨g, o + j * 5 + 2, none⟩ = some (.int .i64 t.c) ∧ w.cell? ⟨g, o + j * 5 + 3, none⟩ = some (.int .u64 t.x) ∧ w.cell? ⟨g, o + j * 5 + 4, none⟩ = some (.slice t.A t.n t.p)
theorem Acs.below {w w' : World} {a : Option Addr} {L : List Ac} (h : Acs w a L) (hb : Below w.heap.size w w') : Acs w' a L := by
  intro j t ht
  obtain ⟨h1, g, o, rfl, hg, c0, c1, c2, c3, c4⟩ := h j t ht
  exact ⟨h1.below hb, g, o, rfl, Nat.lt_of_lt_of_le hg hb.size, (hb.cell (p := ⟨g, _, none⟩) hg).trans c0, (hb.cell (p := ⟨g, _, none⟩) hg).trans c1, (hb.cell (p := ⟨g, _, none⟩) hg).trans c2, (hb.cell (p := ⟨g, _, none⟩) hg).trans c3, (hb.cell (p := ⟨g, _, none⟩) hg).trans c4⟩
def ActsIn (w : World) (a : Option Addr) (len cap : Nat) : Prop := len ≤ cap ∧ cap ≤ maxLen ∧ ∃ L : List Ac, L.length = len ∧ Acs w a L
theorem cells37 : Try.prog.cellsOf 37 = 5 := by kernel_rfl
section
variable {H : Type} {enc : TypeId × Value → H} {w : World} {base : Nat} {spare : Nat → Bool} {held : Bool} {a : Option Addr} {len cap : Nat} {d : DataW H} {ps : List MemPlace}
theorem bytes_of {fuel : Nat} {v : Value} {y : DataW H × List MemPlace} (hf : DataW.trod enc Try.prog w base spare held fuel 35 [v] = some y) : ∃ A n p z, v = .slice A n p ∧ Bytes w A n p z := by
  rcases open_ints Try.underlying35 Try.underlying5 (by kernel_rfl) hf with ⟨hcs, _⟩ | ⟨x, l, c, zs, hcs, _, hl, hm, hz, _, hcell, hwz⟩
  · obtain rfl : v = .slice none 0 0 := by simpa using hcs
    exact ⟨none, 0, 0, [], rfl, rfl, Nat.le_refl _, by unfold maxLen; omega, (fun z hz => by cases hz), fun h => by omega, fun _ => rfl⟩
  · obtain rfl : v = .slice (some x) l c := by simpa using hcs
    have hzl : l ≤ zs.length := by rw [hz]; split <;> omega
    refine ⟨some x, l, c, zs.take l, rfl, by simp; omega, hl, hm, fun z hz => bounds_u8 (hwz z (List.mem_of_mem_take hz)), fun h0 => ?_, fun h => by cases h⟩
    obtain ⟨g, off, rfl⟩ := plain_of (hcell 0 (by omega))
    refine ⟨g, off, rfl, cell_lt (hcell 0 (by omega)), fun t ht => ?_⟩
    have ht' : t < l := by simp at ht; omega
    have := hcell t (by omega)
    rw [add_none] at this
    rw [this]
    simp [List.getD, ht']
set_option maxRecDepth 100000 in
theorem open_acts_in (h : DataW.Trod enc Try.prog w base spare held 25 (.slice a len cap) d ps) : ActsIn w a len cap := by
  obtain ⟨fuel, hf⟩ := h
  rcases open_slice Try.underlying25 hf with ⟨hcs, _⟩ | ⟨x, l, c, m, n, D, Pl, hcs, _, hl, hm, hmm, _, hx⟩
  · simp [Value.cells] at hcs
    obtain ⟨rfl, rfl, rfl⟩ := hcs
    exact ⟨Nat.le_refl _, by unfold maxLen; omega, [], rfl, (fun k L hp => by simp at hp)⟩
  · simp [Value.cells] at hcs
    obtain ⟨rfl, rfl, rfl⟩ := hcs
    have hlm : len ≤ m := by rw [hmm]; split <;> omega
    refine ⟨hl, hm, ?_⟩
    have each : ∀ i, i < len → ∃ t : Ac, t.In w ∧ w.cell? (x.add (i * 5)) = some (.int .i64 t.k) ∧ w.cell? (x.add (i * 5 + 1)) = some (.int .i64 t.h) ∧ w.cell? (x.add (i * 5 + 2)) = some (.int .i64 t.c) ∧ w.cell? (x.add (i * 5 + 3)) = some (.int .u64 t.x) ∧ w.cell? (x.add (i * 5 + 4)) = some (.slice t.A t.n t.p) := by
      intro i hi
      obtain ⟨cs', h1, h2⟩ := hx i (by omega)
      rw [cells37] at h1
      obtain ⟨_, hlen, hcell⟩ := World.cells?_some h1
      obtain ⟨xs, k, _, _, _, hxl, hg⟩ := DataW.trod_struct Try.underlying37 h2
      match xs, hxl, cs', hlen with
      | [y0, y1, y2, y3, y4], _, [v0, v1, v2, v3, v4], _ =>
        have g0 : DataW.trod enc Try.prog w base spare held k 3 [v0] = some y0 := hg 0 _ rfl
        have g1 : DataW.trod enc Try.prog w base spare held k 2 [v1] = some y1 := hg 1 _ rfl
        have g2 : DataW.trod enc Try.prog w base spare held k 2 [v2] = some y2 := hg 2 _ rfl
        have g3 : DataW.trod enc Try.prog w base spare held k 34 [v3] = some y3 := hg 3 _ rfl
        have g4 : DataW.trod enc Try.prog w base spare held k 35 [v4] = some y4 := hg 4 _ rfl
        obtain ⟨a0, e0, _, w0⟩ := DataW.trod_int Try.underlying3 g0
        obtain ⟨a1, e1, _, w1⟩ := DataW.trod_int Try.underlying2 g1
        obtain ⟨a2, e2, _, w2⟩ := DataW.trod_int Try.underlying2 g2
        obtain ⟨a3, e3, _, w3⟩ := DataW.trod_int Try.underlying34 g3
        obtain ⟨A, nn, pp, zz, rfl, hz⟩ := bytes_of g4
        obtain rfl : v0 = .int .i64 a0 := by simpa using e0
        obtain rfl : v1 = .int .i64 a1 := by simpa using e1
        obtain rfl : v2 = .int .i64 a2 := by simpa using e2
        obtain rfl : v3 = .int .u64 a3 := by simpa using e3
        have c0 := hcell 0 (by omega)
        have c1 := hcell 1 (by omega)
        have c2 := hcell 2 (by omega)
        have c3 := hcell 3 (by omega)
        have c4 := hcell 4 (by omega)
        rw [add_add] at c0 c1 c2 c3 c4
        exact ⟨⟨a0, a1, a2, a3, A, nn, pp, zz⟩, ⟨bounds_i64 w0, bounds_i64 w1, bounds_i64 w2, bounds_u64 w3, hz⟩, by simpa using c0, by simpa using c1, by simpa using c2, by simpa using c3, by simpa using c4⟩
    obtain ⟨L, hL, hq⟩ := pick_list _ len each
    refine ⟨L, hL, fun j t ht => ?_⟩
    obtain ⟨h1, c0, c1, c2, c3, c4⟩ := hq j t ht
    have hj : j < L.length := (List.getElem?_eq_some_iff.1 ht).1
    obtain ⟨_, _, z0, _⟩ := each 0 (by omega)
    rw [Nat.zero_mul] at z0
    obtain ⟨g, off, rfl⟩ := plain_of z0
    rw [add_none] at c0 c1 c2 c3 c4
    exact ⟨h1, g, off, rfl, cell_lt c0, c0, c1, c2, c3, c4⟩
end
end Go.Proofs.Ytfknefpfekjnnaa
