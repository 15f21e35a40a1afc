/- Arguments that are slices of integers, or slices of slices of samples: opened to lists. -/
import Derived.Test.YtcmmhgalnfleoaaRows
import Derived.Test.YtcmmhgalnfleoaaSel
import Derived.ChangeSame
import Derived.OpenShut
import Derived.Lib.SmallJoins
import Derived.Deep.Slices
namespace Go.Proofs.Ytcmmhgalnfleoaa
open Go.Joins Go.ChangeShapes Go.WideShapes Go.RowKit Go.Deep

/-- A slice of integers that came in. -/
def IntsIn (k : IntKind) (w : World) (a : Option Addr) (len cap : Nat) : Prop :=
  len ≤ cap ∧ cap ≤ maxLen ∧ ∃ xs : List Int, xs.length = len ∧ (∀ x ∈ xs, (Lit.int k x).wf = true) ∧ Lies w a (xs.map (Value.int k)) ∧ (a = none → cap = 0)
section
variable {H : Type} {enc : TypeId × Value → H} {w : World} {base : Nat} {spare : Nat → Bool} {held : Bool} {a : Option Addr} {len cap : Nat} {d : DataW H} {ps : List MemPlace}
theorem lies_of {α : Type} (f : α → Value) (x : Addr) (xs : List α) (n : Nat) (hn : n ≤ xs.length) (d : α) (h : ∀ i, i < xs.length → w.cell? (x.add i) = some (f (xs.getD i d))) : Lies w (some x) ((xs.take n).map f) := by
  rcases Nat.eq_zero_or_pos n with h0 | h0
  · subst h0; exact .inl (by simp)
  · obtain ⟨g, off, spot⟩ := x
    have hspot : spot = none := by simpa [Addr.add] using World.cell?_spot (h 0 (by omega))
    subst hspot
    refine .inr ⟨g, off, rfl, cell_lt (h 0 (by omega)), fun j v hv => ?_⟩
    have hj : j < n := by have := (List.getElem?_eq_some_iff.1 hv).1; simp at this; omega
    have := h j (by omega)
    rw [add_none] at this
    rw [this]
    rw [List.getElem?_map, List.getElem?_take, if_pos hj, List.getElem?_eq_getElem (by omega)] at hv
    rw [List.getD_eq_getElem?_getD, List.getElem?_eq_getElem (by omega)]
    simpa using hv
theorem open_ints_in {t e : TypeId} {k : IntKind} (ht : Try.prog.underlying t = some (.slice e)) (he : Try.prog.underlying e = some (.int k)) (hc : Try.prog.cellsOf e = 1)
    (h : DataW.Trod enc Try.prog w base spare held t (.slice a len cap) d ps) : IntsIn k w a len cap := by
  obtain ⟨fuel, hf⟩ := h
  rcases open_ints ht he hc hf with ⟨hcs, _⟩ | ⟨x, l, c, zs, hcs, _, hl, hm, hz, _, hcell, hwz⟩
  · simp [Value.cells] at hcs
    obtain ⟨rfl, rfl, rfl⟩ := hcs
    exact ⟨Nat.le_refl _, by unfold maxLen; omega, [], rfl, (fun x hx => by cases hx), .inl rfl, fun _ => rfl⟩
  · simp [Value.cells] at hcs
    obtain ⟨rfl, rfl, rfl⟩ := hcs
    have hzl : len ≤ zs.length := by rw [hz]; split <;> omega
    exact ⟨hl, hm, zs.take len, by simp; omega, fun x hx => hwz x (List.mem_of_mem_take hx), lies_of _ x zs len hzl 0 hcell, fun h => by cases h⟩
end
theorem cells_sm : Try.prog.cellsOf 31 = 4 := by kernel_rfl
theorem cells_sl : Try.prog.cellsOf 40 = 1 := by kernel_rfl
theorem wf_in {a b c d : Int} (h0 : (Lit.int .i64 a).wf = true) (h1 : (Lit.int .i64 b).wf = true) (h2 : (Lit.int .i64 c).wf = true) (h3 : (Lit.int .i64 d).wf = true) : (Sm.mk a b c d).In :=
  ⟨(bounds_i64 h0).1, (bounds_i64 h0).2, (bounds_i64 h1).1, (bounds_i64 h1).2, (bounds_i64 h2).1, (bounds_i64 h2).2, (bounds_i64 h3).1, (bounds_i64 h3).2⟩
/-- A choice for each of the first so many. -/
theorem pick_list {α : Type} (p : Nat → α → Prop) : ∀ n, (∀ t, t < n → ∃ x, p t x) → ∃ l : List α, l.length = n ∧ ∀ t x, l[t]? = some x → p t x
  | 0, _ => ⟨[], rfl, fun _ _ h => by simp at h⟩
  | n + 1, h => by
    obtain ⟨l, hl, hp⟩ := pick_list p n fun t ht => h t (by omega)
    obtain ⟨x, hx⟩ := h n (by omega)
    refine ⟨l ++ [x], by simp [hl], fun t y hy => ?_⟩
    by_cases ht : t < l.length
    · rw [List.getElem?_append_left ht] at hy
      exact hp t y hy
    · rw [List.getElem?_append_right (by omega)] at hy
      have h0 : t - l.length = 0 := by
        rcases Nat.eq_zero_or_pos (t - l.length) with h0 | h0
        · exact h0
        · rw [List.getElem?_eq_none (by simp; omega)] at hy; cases hy
      rw [h0] at hy
      simp at hy
      subst hy
      obtain rfl : t = n := by omega
      exact hx
section
variable {H : Type} {enc : TypeId × Value → H} {w : World} {base : Nat} {spare : Nat → Bool} {held : Bool} {a : Option Addr} {len cap : Nat} {d : DataW H} {ps : List MemPlace}
set_option maxRecDepth 100000 in
theorem sms_of {fuel : Nat} {cs : List Value} {y : DataW H × List MemPlace} (hf : DataW.trod enc Try.prog w base spare held fuel 40 cs = some y) :
    ∃ B cp, ∃ l : List Sm, cs = [.slice B l.length cp] ∧ l.length ≤ cp ∧ cp ≤ maxLen ∧ Sms w B l ∧ ∀ p ∈ l, p.In := by
  rcases open_slice Try.underlying40 hf with ⟨hcs, _⟩ | ⟨x, len, cap, m, n, D, Pl, hcs, _, hl, hm, hmm, _, hx⟩
  · exact ⟨none, 0, [], hcs, Nat.le_refl _, by unfold maxLen; omega, (fun k p hp => by simp at hp), (fun p hp => by cases hp)⟩
  · have hlm : len ≤ m := by rw [hmm]; split <;> omega
    have each : ∀ i, i < len → ∃ p : Sm, p.In ∧ w.cell? (x.add (i * 4)) = some (.int .i64 p.o) ∧ w.cell? (x.add (i * 4 + 1)) = some (.int .i64 p.d) ∧ w.cell? (x.add (i * 4 + 2)) = some (.int .i64 p.t) ∧ w.cell? (x.add (i * 4 + 3)) = some (.int .i64 p.s) := by
      intro i hi
      obtain ⟨cs', h1, h2⟩ := hx i (by omega)
      rw [cells_sm] at h1
      obtain ⟨_, hlen, hcell⟩ := World.cells?_some h1
      obtain ⟨xs, k, _, _, _, hxl, hg⟩ := DataW.trod_struct Try.underlying31  h2
      match xs, hxl, cs', hlen with
      | [y0, y1, y2, y3], _, [v0, v1, v2, v3], _ =>
        have g0 : DataW.trod enc Try.prog w base spare held k 2 [v0] = some y0 := hg 0 _ rfl
        have g1 : DataW.trod enc Try.prog w base spare held k 2 [v1] = some y1 := hg 1 _ rfl
        have g2 : DataW.trod enc Try.prog w base spare held k 2 [v2] = some y2 := hg 2 _ rfl
        have g3 : DataW.trod enc Try.prog w base spare held k 2 [v3] = some y3 := hg 3 _ rfl
        obtain ⟨a0, e0, _, w0⟩ := DataW.trod_int Try.underlying2 g0
        obtain ⟨a1, e1, _, w1⟩ := DataW.trod_int Try.underlying2 g1
        obtain ⟨a2, e2, _, w2⟩ := DataW.trod_int Try.underlying2 g2
        obtain ⟨a3, e3, _, w3⟩ := DataW.trod_int Try.underlying2 g3
        obtain rfl : v0 = .int .i64 a0 := by simpa using e0
        obtain rfl : v1 = .int .i64 a1 := by simpa using e1
        obtain rfl : v2 = .int .i64 a2 := by simpa using e2
        obtain rfl : v3 = .int .i64 a3 := by simpa using e3
        have c0 := hcell 0 (by omega)
        have c1 := hcell 1 (by omega)
        have c2 := hcell 2 (by omega)
        have c3 := hcell 3 (by omega)
        rw [add_add] at c0 c1 c2 c3
        exact ⟨⟨a0, a1, a2, a3⟩, wf_in w0 w1 w2 w3, by simpa using c0, by simpa using c1, by simpa using c2, by simpa using c3⟩
    obtain ⟨L, hL, hq⟩ := pick_list _ len each
    obtain ⟨g, off, spot⟩ := x
    refine ⟨some ⟨g, off, spot⟩, cap, L, by rw [hL]; exact hcs, by omega, hm, fun k p hp => ?_, fun p hp => ?_⟩
    rotate_left
    · obtain ⟨i, hi, rfl⟩ := List.getElem_of_mem hp
      exact (hq i _ (List.getElem?_eq_getElem hi)).1
    · obtain ⟨_, c0, c1, c2, c3⟩ := hq k p hp
      have hspot : spot = none := by
        have hk : k < L.length := (List.getElem?_eq_some_iff.1 hp).1
        obtain ⟨_, _, z0, _⟩ := each 0 (by omega)
        simpa [Addr.add] using World.cell?_spot z0
      subst hspot
      rw [add_none] at c0 c1 c2 c3
      exact ⟨g, off, rfl, cell_lt c0, c0, by simpa [Nat.add_assoc] using c1, by simpa [Nat.add_assoc] using c2, by simpa [Nat.add_assoc] using c3⟩
/-- A slice of lists of samples that came in. -/
def ActsIn (w : World) (a : Option Addr) (len cap : Nat) : Prop :=
  len ≤ cap ∧ cap ≤ maxLen ∧ ∃ Ls : List (List Sm), Ls.length = len ∧ Sls w a Ls
theorem open_acts_in (h : DataW.Trod enc Try.prog w base spare held 37 (.slice a len cap) d ps) : ActsIn w a len cap := by
  obtain ⟨fuel, hf⟩ := h
  rcases open_slice Try.underlying37 hf with ⟨hcs, _⟩ | ⟨x, l, c, m, n, D, Pl, hcs, _, hl, hm, hmm, _, hx⟩
  · simp [Value.cells] at hcs
    obtain ⟨rfl, rfl, rfl⟩ := hcs
    exact ⟨Nat.le_refl _, by unfold maxLen; omega, [], rfl, (fun k L hp => by simp at hp)⟩
  · simp [Value.cells] at hcs
    obtain ⟨rfl, rfl, rfl⟩ := hcs
    have hlm : len ≤ m := by rw [hmm]; split <;> omega
    refine ⟨hl, hm, ?_⟩
    have each : ∀ i, i < len → ∃ L : List Sm, ∃ B c, w.cell? (x.add i) = some (.slice B L.length c) ∧ L.length ≤ c ∧ c ≤ maxLen ∧ Sms w B L ∧ ∀ p ∈ L, p.In := by
      intro i hi
      obtain ⟨cs', h1, h2⟩ := hx i (by omega)
      rw [cells_sl] at h1
      obtain ⟨_, _, hcell⟩ := World.cells?_some h1
      obtain ⟨B, cp, L, rfl, k1, k2, k3, k4⟩ := sms_of h2
      have c0 := hcell 0 (by omega)
      rw [add_add] at c0
      exact ⟨L, B, cp, by simpa using c0, k1, k2, k3, k4⟩
    obtain ⟨Ls, hL, hq⟩ := pick_list _ len each
    obtain ⟨g, off, spot⟩ := x
    refine ⟨Ls, hL, fun k L hk => ?_⟩
    obtain ⟨B, c, c0, k1, k2, k3, k4⟩ := hq k L hk
    have hspot : spot = none := by
      have hk' : k < Ls.length := (List.getElem?_eq_some_iff.1 hk).1
      obtain ⟨_, _, _, z0, _⟩ := each 0 (by omega)
      simpa [Addr.add] using World.cell?_spot z0
    subst hspot
    rw [add_none] at c0
    exact ⟨g, off, B, c, rfl, cell_lt c0, c0, k1, k2, k3, k4⟩
end
end Go.Proofs.Ytcmmhgalnfleoaa
