/- Arguments that are slices of integers, or of acts: opened to their numbers and texts. -/
import Derived.Test.YtpmmhnojofacpaaRows
import Derived.Test.YtpmmhnojofacpaaMem
import Derived.ChangeSame
import Derived.OpenShut
import Derived.ShutString
import Derived.Lib.SmallJoins
import Derived.Deep.Slices
namespace Go.Proofs.Ytpmmhnojofacpaa
open Go.Joins Go.ChangeShapes Go.WideShapes Go.RowKit Go.Deep

/-- A slice of integers that came in. -/
def IntsIn (k : IntKind) (w : World) (a : Option Addr) (len cap : Nat) : Prop :=
  len ≤ cap ∧ cap ≤ maxLen ∧ (0 < len → ∃ g o, a = some ⟨g, o, none⟩ ∧ g < w.heap.size ∧ ∀ t, t < len → ∃ z, (Lit.int k z).wf = true ∧ w.cell? ⟨g, o + t, none⟩ = some (.int k z))
/-- A slice of acts that came in. -/
def ActsIn (w : World) (a : Option Addr) (len cap : Nat) : Prop :=
  len ≤ cap ∧ cap ≤ maxLen ∧ (0 < len → ∃ g o, a = some ⟨g, o, none⟩ ∧ g < w.heap.size ∧ ∀ t, t < len → ∃ (x : Int) (s : ByteArray), w.cell? ⟨g, o + t * 2, none⟩ = some (.int .i64 x) ∧ w.cell? ⟨g, o + t * 2 + 1, none⟩ = some (.string s))
/-- A choice for each of the first so many. -/
theorem pick_list {α : Type} (p : Nat → α → Prop) : ∀ n, (∀ t, t < n → ∃ x, p t x) → ∃ l : List α, l.length = n ∧ ∀ t x, l[t]? = some x → p t x
  | 0, _ => ⟨[], rfl, fun _ _ h => by simp at h⟩
  | n + 1, h => by
    obtain ⟨l, hl, hp⟩ := pick_list p n fun t ht => h t (by omega)
    obtain ⟨x, hx⟩ := h n (by omega)
    refine ⟨l ++ [x], by simp [hl], fun t y hy => ?_⟩
    by_cases ht : t < l.length
    · rw [List.getElem?_append_left ht] at hy
      exact hp t y hy
    · rw [List.getElem?_append_right (by omega)] at hy
      have h0 : t - l.length = 0 := by
        rcases Nat.eq_zero_or_pos (t - l.length) with h0 | h0
        · exact h0
        · rw [List.getElem?_eq_none (by simp; omega)] at hy; cases hy
      rw [h0] at hy
      simp at hy
      subst hy
      obtain rfl : t = n := by omega
      exact hx
theorem IntsIn.list {k : IntKind} {w : World} {A : Option Addr} {len cap : Nat} (h : IntsIn k w A len cap) : ∃ zs : List Int, zs.length = len ∧ ∀ t z, zs[t]? = some z → (Lit.int k z).wf = true ∧ ∃ g o, A = some ⟨g, o, none⟩ ∧ g < w.heap.size ∧ w.cell? ⟨g, o + t, none⟩ = some (.int k z) :=
  pick_list _ len fun t ht => by
    obtain ⟨g, o, rfl, hg, hc⟩ := h.2.2 (by omega)
    obtain ⟨z, hz, hcell⟩ := hc t ht
    exact ⟨z, hz, g, o, rfl, hg, hcell⟩
theorem ActsIn.list {w : World} {A : Option Addr} {len cap : Nat} (h : ActsIn w A len cap) : ∃ zs : List (Int × ByteArray), zs.length = len ∧ ∀ t z, zs[t]? = some z → ∃ g o, A = some ⟨g, o, none⟩ ∧ g < w.heap.size ∧ w.cell? ⟨g, o + t * 2, none⟩ = some (.int .i64 z.1) ∧ w.cell? ⟨g, o + t * 2 + 1, none⟩ = some (.string z.2) :=
  pick_list _ len fun t ht => by
    obtain ⟨g, o, rfl, hg, hc⟩ := h.2.2 (by omega)
    obtain ⟨x, s, h1, h2⟩ := hc t ht
    exact ⟨(x, s), g, o, rfl, hg, h1, h2⟩
section
variable {H : Type} {enc : TypeId × Value → H} {w : World} {base : Nat} {spare : Nat → Bool} {held : Bool} {a : Option Addr} {len cap : Nat} {d : DataW H} {ps : List MemPlace}
theorem open_ints_in {t e : TypeId} {k : IntKind} (ht : Try.prog.underlying t = some (.slice e)) (he : Try.prog.underlying e = some (.int k)) (hc : Try.prog.cellsOf e = 1)
    (h : DataW.Trod enc Try.prog w base spare held t (.slice a len cap) d ps) : IntsIn k w a len cap := by
  obtain ⟨fuel, hf⟩ := h
  rcases open_ints ht he hc hf with ⟨hcs, _⟩ | ⟨x, l, c, zs, hcs, _, hl, hm, hz, _, hcell, hwz⟩
  · simp [Value.cells] at hcs
    obtain ⟨rfl, rfl, rfl⟩ := hcs
    exact ⟨Nat.le_refl _, by unfold maxLen; omega, fun h => by omega⟩
  · simp [Value.cells] at hcs
    obtain ⟨rfl, rfl, rfl⟩ := hcs
    have hzl : len ≤ zs.length := by rw [hz]; split <;> omega
    refine ⟨hl, hm, fun h0 => ?_⟩
    obtain ⟨g, off, spot⟩ := x
    have hspot : spot = none := by simpa [Addr.add] using World.cell?_spot (hcell 0 (by omega))
    subst hspot
    refine ⟨g, off, rfl, cell_lt (hcell 0 (by omega)), fun t ht => ?_⟩
    have := hcell t (by omega)
    rw [add_none] at this
    exact ⟨_, hwz _ (by simp [List.getD, show t < zs.length by omega]), this⟩
theorem cells34 : Try.prog.cellsOf 34 = 2 := by kernel_rfl
set_option maxRecDepth 100000 in
theorem open_acts_in (h : DataW.Trod enc Try.prog w base spare held 22 (.slice a len cap) d ps) : ActsIn w a len cap := by
  obtain ⟨fuel, hf⟩ := h
  rcases open_slice Try.underlying22 hf with ⟨hcs, _⟩ | ⟨x, l, c, m, n, D, Pl, hcs, _, hl, hm, hmm, _, hx⟩
  · simp [Value.cells] at hcs
    obtain ⟨rfl, rfl, rfl⟩ := hcs
    exact ⟨Nat.le_refl _, by unfold maxLen; omega, fun h => by omega⟩
  · simp [Value.cells] at hcs
    obtain ⟨rfl, rfl, rfl⟩ := hcs
    have hlm : len ≤ m := by rw [hmm]; split <;> omega
    refine ⟨hl, hm, fun h0 => ?_⟩
    have each : ∀ i, i < len → ∃ (x0 : Int) (s0 : ByteArray), w.cell? (x.add (i * 2)) = some (.int .i64 x0) ∧ w.cell? (x.add (i * 2 + 1)) = some (.string s0) := by
      intro i hi
      obtain ⟨cs', h1, h2⟩ := hx i (by omega)
      rw [cells34] at h1
      obtain ⟨_, hlen, hcell⟩ := World.cells?_some h1
      obtain ⟨xs, k, _, _, _, hxl, hg⟩ := DataW.trod_struct Try.underlying34 h2
      match xs, hxl, cs', hlen with
      | [y0, y1], _, [v0, v1], _ =>
        have g0 : DataW.trod enc Try.prog w base spare held k 3 [v0] = some y0 := hg 0 _ rfl
        have g1 : DataW.trod enc Try.prog w base spare held k 9 [v1] = some y1 := hg 1 _ rfl
        obtain ⟨a0, e0, _, _⟩ := DataW.trod_int Try.underlying3 g0
        obtain ⟨a1, e1, _⟩ := DataW.trod_string Try.underlying9 g1
        obtain rfl : v0 = .int .i64 a0 := by simpa using e0
        obtain rfl : v1 = .string a1 := by simpa using e1
        have c0 := hcell 0 (by omega)
        have c1 := hcell 1 (by omega)
        rw [add_add] at c0 c1
        exact ⟨a0, a1, by simpa using c0, by simpa using c1⟩
    obtain ⟨g, off, spot⟩ := x
    have hspot : spot = none := by
      obtain ⟨_, _, c0, _⟩ := each 0 h0
      simpa [Addr.add] using World.cell?_spot c0
    subst hspot
    refine ⟨g, off, rfl, ?_, fun t ht => ?_⟩
    · obtain ⟨_, _, c0, _⟩ := each 0 h0
      have := cell_lt c0
      simpa [Addr.add] using this
    · obtain ⟨a0, a1, c0, c1⟩ := each t ht
      rw [add_none] at c0 c1
      exact ⟨a0, a1, c0, by simpa [Nat.add_assoc] using c1⟩
end
end Go.Proofs.Ytpmmhnojofacpaa
