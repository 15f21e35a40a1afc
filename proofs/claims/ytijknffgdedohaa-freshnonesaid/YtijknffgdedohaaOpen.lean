/- Arguments that are a sample by value, or a slice of samples: opened to their numbers. -/
import Derived.Test.YtijknffgdedohaaRows
import Derived.Test.YtijknffgdedohaaSm
import Derived.ChangeSame
import Derived.OpenShut
import Derived.Test.YtijknffgdedohaaFr
import Derived.Lib.SmallJoins
import Derived.Deep.Slices
namespace Go.Proofs.Ytijknffgdedohaa
open Go.Joins Go.ChangeShapes Go.WideShapes Go.RowKit Go.Deep

theorem cells30 : Try.prog.cellsOf 28 = 4 := by kernel_rfl
theorem list4 {α : Type} (l : List α) (h : l.length = 4) : ∃ c0 c1 c2 c3, l = [c0, c1, c2, c3] := by
  match l, h with
  | [c0, c1, c2, c3], _ => exact ⟨c0, c1, c2, c3, rfl⟩

theorem open_sm {H : Type} {enc : TypeId × Value → H} {w : World} {base : Nat} {spare : Nat → Bool} {held : Bool} {r : Reach} {b0 : Nat} {v : Value} {d : DataW H} {ps : List MemPlace}
    (hv : Value.okWide Try.prog w r b0 28 v) (h : DataW.Trod enc Try.prog w base spare held 28 v d ps) :
    ∃ a0 a1 a2 a3 : Int, v = .agg #[.int .i64 a0, .int .i64 a1, .int .i64 a2, .int .i64 a3] ∧ (Lit.int .i64 a0).wf = true ∧ (Lit.int .i64 a1).wf = true ∧ (Lit.int .i64 a2).wf = true ∧ (Lit.int .i64 a3).wf = true := by
  obtain ⟨cs, rfl, hsz⟩ := okWide_struct Try.underlying28 hv
  obtain ⟨l⟩ := cs
  obtain ⟨c0, c1, c2, c3, rfl⟩ := list4 l (by have := hsz.trans cells30; simpa using this)
  obtain ⟨fuel, hf⟩ := h
  obtain ⟨xs, m, _, hx, _, hlen, hg⟩ := DataW.trod_struct Try.underlying28 hf
  have g0 : DataW.trod enc Try.prog w base spare held m 2 [c0] = xs[0]? := hg 0 _ rfl
  obtain ⟨y0, hy0⟩ : ∃ y, xs[0]? = some y := ⟨xs[0]'(by have : xs.length = 4 := hlen; omega), List.getElem?_eq_getElem _⟩
  obtain ⟨a0, e0, _, w0⟩ := DataW.trod_int Try.underlying2 (g0.trans hy0)
  obtain rfl : c0 = .int .i64 a0 := by simpa using e0
  have g1 : DataW.trod enc Try.prog w base spare held m 2 [c1] = xs[1]? := hg 1 _ rfl
  obtain ⟨y1, hy1⟩ : ∃ y, xs[1]? = some y := ⟨xs[1]'(by have : xs.length = 4 := hlen; omega), List.getElem?_eq_getElem _⟩
  obtain ⟨a1, e1, _, w1⟩ := DataW.trod_int Try.underlying2 (g1.trans hy1)
  obtain rfl : c1 = .int .i64 a1 := by simpa using e1
  have g2 : DataW.trod enc Try.prog w base spare held m 2 [c2] = xs[2]? := hg 2 _ rfl
  obtain ⟨y2, hy2⟩ : ∃ y, xs[2]? = some y := ⟨xs[2]'(by have : xs.length = 4 := hlen; omega), List.getElem?_eq_getElem _⟩
  obtain ⟨a2, e2, _, w2⟩ := DataW.trod_int Try.underlying2 (g2.trans hy2)
  obtain rfl : c2 = .int .i64 a2 := by simpa using e2
  have g3 : DataW.trod enc Try.prog w base spare held m 2 [c3] = xs[3]? := hg 3 _ rfl
  obtain ⟨y3, hy3⟩ : ∃ y, xs[3]? = some y := ⟨xs[3]'(by have : xs.length = 4 := hlen; omega), List.getElem?_eq_getElem _⟩
  obtain ⟨a3, e3, _, w3⟩ := DataW.trod_int Try.underlying2 (g3.trans hy3)
  obtain rfl : c3 = .int .i64 a3 := by simpa using e3
  exact ⟨a0, a1, a2, a3, rfl, w0, w1, w2, w3⟩

theorem wf_in {a b c d : Int} (h0 : (Lit.int .i64 a).wf = true) (h1 : (Lit.int .i64 b).wf = true) (h2 : (Lit.int .i64 c).wf = true) (h3 : (Lit.int .i64 d).wf = true) : (Sm.mk a b c d).In :=
  ⟨(bounds_i64 h0).1, (bounds_i64 h0).2, (bounds_i64 h1).1, (bounds_i64 h1).2, (bounds_i64 h2).1, (bounds_i64 h2).2, (bounds_i64 h3).1, (bounds_i64 h3).2⟩
/-- A slice of samples that came in. -/
def ActsIn (w : World) (a : Option Addr) (len cap : Nat) : Prop :=
  len ≤ cap ∧ cap ≤ maxLen ∧ ∃ l : List Sm, l.length = len ∧ (∀ p ∈ l, p.In) ∧ Sms w a l ∧ (a = none → cap = 0)
/-- A choice for each of the first so many. -/
theorem pick_list {α : Type} (p : Nat → α → Prop) : ∀ n, (∀ t, t < n → ∃ x, p t x) → ∃ l : List α, l.length = n ∧ ∀ t x, l[t]? = some x → p t x
  | 0, _ => ⟨[], rfl, fun _ _ h => by simp at h⟩
  | n + 1, h => by
    obtain ⟨l, hl, hp⟩ := pick_list p n fun t ht => h t (by omega)
    obtain ⟨x, hx⟩ := h n (by omega)
    refine ⟨l ++ [x], by simp [hl], fun t y hy => ?_⟩
    by_cases ht : t < l.length
    · rw [List.getElem?_append_left ht] at hy
      exact hp t y hy
    · rw [List.getElem?_append_right (by omega)] at hy
      have h0 : t - l.length = 0 := by
        rcases Nat.eq_zero_or_pos (t - l.length) with h0 | h0
        · exact h0
        · rw [List.getElem?_eq_none (by simp; omega)] at hy; cases hy
      rw [h0] at hy
      simp at hy
      subst hy
      obtain rfl : t = n := by omega
      exact hx
section
variable {H : Type} {enc : TypeId × Value → H} {w : World} {base : Nat} {spare : Nat → Bool} {held : Bool} {a : Option Addr} {len cap : Nat} {d : DataW H} {ps : List MemPlace}
set_option maxRecDepth 100000 in
theorem open_acts_in (h : DataW.Trod enc Try.prog w base spare held 22 (.slice a len cap) d ps) : ActsIn w a len cap := by
  obtain ⟨fuel, hf⟩ := h
  rcases open_slice Try.underlying22 hf with ⟨hcs, _⟩ | ⟨x, l, c, m, n, D, Pl, hcs, _, hl, hm, hmm, _, hx⟩
  · simp [Value.cells] at hcs
    obtain ⟨rfl, rfl, rfl⟩ := hcs
    exact ⟨Nat.le_refl _, by unfold maxLen; omega, [], rfl, (fun p hp => by cases hp), (fun k p hp => by simp at hp), fun _ => rfl⟩
  · simp [Value.cells] at hcs
    obtain ⟨rfl, rfl, rfl⟩ := hcs
    have hlm : len ≤ m := by rw [hmm]; split <;> omega
    refine ⟨hl, hm, ?_⟩
    have each : ∀ i, i < len → ∃ p : Sm, p.In ∧ w.cell? (x.add (i * 4)) = some (.int .i64 p.o) ∧ w.cell? (x.add (i * 4 + 1)) = some (.int .i64 p.d) ∧ w.cell? (x.add (i * 4 + 2)) = some (.int .i64 p.t) ∧ w.cell? (x.add (i * 4 + 3)) = some (.int .i64 p.s) := by
      intro i hi
      obtain ⟨cs', h1, h2⟩ := hx i (by omega)
      rw [cells30] at h1
      obtain ⟨_, hlen, hcell⟩ := World.cells?_some h1
      obtain ⟨xs, k, _, _, _, hxl, hg⟩ := DataW.trod_struct Try.underlying28 h2
      match xs, hxl, cs', hlen with
      | [y0, y1, y2, y3], _, [v0, v1, v2, v3], _ =>
        have g0 : DataW.trod enc Try.prog w base spare held k 2 [v0] = some y0 := hg 0 _ rfl
        have g1 : DataW.trod enc Try.prog w base spare held k 2 [v1] = some y1 := hg 1 _ rfl
        have g2 : DataW.trod enc Try.prog w base spare held k 2 [v2] = some y2 := hg 2 _ rfl
        have g3 : DataW.trod enc Try.prog w base spare held k 2 [v3] = some y3 := hg 3 _ rfl
        obtain ⟨a0, e0, _, w0⟩ := DataW.trod_int Try.underlying2 g0
        obtain ⟨a1, e1, _, w1⟩ := DataW.trod_int Try.underlying2 g1
        obtain ⟨a2, e2, _, w2⟩ := DataW.trod_int Try.underlying2 g2
        obtain ⟨a3, e3, _, w3⟩ := DataW.trod_int Try.underlying2 g3
        obtain rfl : v0 = .int .i64 a0 := by simpa using e0
        obtain rfl : v1 = .int .i64 a1 := by simpa using e1
        obtain rfl : v2 = .int .i64 a2 := by simpa using e2
        obtain rfl : v3 = .int .i64 a3 := by simpa using e3
        have c0 := hcell 0 (by omega)
        have c1 := hcell 1 (by omega)
        have c2 := hcell 2 (by omega)
        have c3 := hcell 3 (by omega)
        rw [add_add] at c0 c1 c2 c3
        exact ⟨⟨a0, a1, a2, a3⟩, wf_in w0 w1 w2 w3, by simpa using c0, by simpa using c1, by simpa using c2, by simpa using c3⟩
    obtain ⟨L, hL, hq⟩ := pick_list _ len each
    obtain ⟨g, off, spot⟩ := x
    refine ⟨L, hL, fun p hp => ?_, fun k p hp => ?_, fun h => by cases h⟩
    · obtain ⟨i, hi, rfl⟩ := List.getElem_of_mem hp
      exact (hq i _ (List.getElem?_eq_getElem hi)).1
    · obtain ⟨_, c0, c1, c2, c3⟩ := hq k p hp
      have hspot : spot = none := by
        have hk : k < L.length := (List.getElem?_eq_some_iff.1 hp).1
        obtain ⟨_, _, z0, _⟩ := each 0 (by omega)
        simpa [Addr.add] using World.cell?_spot z0
      subst hspot
      rw [add_none] at c0 c1 c2 c3
      exact ⟨g, off, rfl, cell_lt c0, c0, by simpa [Nat.add_assoc] using c1, by simpa [Nat.add_assoc] using c2, by simpa [Nat.add_assoc] using c3⟩
end
end Go.Proofs.Ytijknffgdedohaa
