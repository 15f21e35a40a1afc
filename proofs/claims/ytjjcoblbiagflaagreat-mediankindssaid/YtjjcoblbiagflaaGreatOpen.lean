/- Arguments that are slices of integers, or of texts: opened to lists. -/
import Derived.Test.YtjjcoblbiagflaaGreatRows
import Derived.Test.YtjjcoblbiagflaaGreatMed
import Derived.ChangeSame
import Derived.OpenShut
import Derived.SliceStrings
namespace Go.Proofs.YtjjcoblbiagflaaGreat
open Go.ChangeShapes Go.WideShapes Go.RowKit Go.Sort

/-- A slice of integers that came in. -/
def IntsIn (k : IntKind) (w : World) (a : Option Addr) (len cap : Nat) : Prop :=
  len ≤ cap ∧ cap ≤ maxLen ∧ ∃ xs : List Int, xs.length = len ∧ (∀ x ∈ xs, (Lit.int k x).wf = true) ∧ Lies w a (xs.map (Value.int k)) ∧ (a = none → cap = 0)
/-- A slice of texts that came in. -/
def ActsIn (w : World) (a : Option Addr) (len cap : Nat) : Prop :=
  len ≤ cap ∧ cap ≤ maxLen ∧ ∃ xs : List (List UInt8), xs.length = len ∧ Lies w a (xs.map encStr)
section
variable {H : Type} {enc : TypeId × Value → H} {w : World} {base : Nat} {spare : Nat → Bool} {held : Bool} {a : Option Addr} {len cap : Nat} {d : DataW H} {ps : List MemPlace}
theorem lies_of {α : Type} (f : α → Value) (x : Addr) (xs : List α) (n : Nat) (hn : n ≤ xs.length) (d : α) (h : ∀ i, i < xs.length → w.cell? (x.add i) = some (f (xs.getD i d))) : Lies w (some x) ((xs.take n).map f) := by
  rcases Nat.eq_zero_or_pos n with h0 | h0
  · subst h0; exact .inl (by simp)
  · obtain ⟨g, off, spot⟩ := x
    have hspot : spot = none := by simpa [Addr.add] using World.cell?_spot (h 0 (by omega))
    subst hspot
    refine .inr ⟨g, off, rfl, cell_lt (h 0 (by omega)), fun j v hv => ?_⟩
    have hj : j < n := by have := (List.getElem?_eq_some_iff.1 hv).1; simp at this; omega
    have := h j (by omega)
    rw [add_none] at this
    rw [this]
    rw [List.getElem?_map, List.getElem?_take, if_pos hj, List.getElem?_eq_getElem (by omega)] at hv
    rw [List.getD_eq_getElem?_getD, List.getElem?_eq_getElem (by omega)]
    simpa using hv
theorem open_ints_in {t e : TypeId} {k : IntKind} (ht : Tryz.prog.underlying t = some (.slice e)) (he : Tryz.prog.underlying e = some (.int k)) (hc : Tryz.prog.cellsOf e = 1)
    (h : DataW.Trod enc Tryz.prog w base spare held t (.slice a len cap) d ps) : IntsIn k w a len cap := by
  obtain ⟨fuel, hf⟩ := h
  rcases open_ints ht he hc hf with ⟨hcs, _⟩ | ⟨x, l, c, zs, hcs, _, hl, hm, hz, _, hcell, hwz⟩
  · simp [Value.cells] at hcs
    obtain ⟨rfl, rfl, rfl⟩ := hcs
    exact ⟨Nat.le_refl _, by unfold maxLen; omega, [], rfl, (fun x hx => by cases hx), .inl rfl, fun _ => rfl⟩
  · simp [Value.cells] at hcs
    obtain ⟨rfl, rfl, rfl⟩ := hcs
    have hzl : len ≤ zs.length := by rw [hz]; split <;> omega
    exact ⟨hl, hm, zs.take len, by simp; omega, fun x hx => hwz x (List.mem_of_mem_take hx), lies_of _ x zs len hzl 0 hcell, fun h => by cases h⟩
theorem open_acts_in (h : DataW.Trod enc Tryz.prog w base spare held 49 (.slice a len cap) d ps) : ActsIn w a len cap := by
  obtain ⟨fuel, hf⟩ := h
  rcases open_strings Tryz.underlying49 Tryz.underlying9 (by kernel_rfl) hf with ⟨hcs, _⟩ | ⟨x, l, c, ss, hcs, _, hl, hm, hz, _, hcell, hws⟩
  · simp [Value.cells] at hcs
    obtain ⟨rfl, rfl, rfl⟩ := hcs
    exact ⟨Nat.le_refl _, by unfold maxLen; omega, [], rfl, .inl rfl⟩
  · simp [Value.cells] at hcs
    obtain ⟨rfl, rfl, rfl⟩ := hcs
    have hzl : len ≤ ss.length := by rw [hz]; split <;> omega
    refine ⟨hl, hm, (ss.take len).map (fun s => s.data.toList), by simp; omega, ?_⟩
    have := lies_of (fun s : ByteArray => Value.string s) x ss len hzl ByteArray.empty hcell
    rw [List.map_map]
    exact this
end
end Go.Proofs.YtjjcoblbiagflaaGreat
