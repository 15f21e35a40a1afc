/- Arguments that are slices of bools: opened. -/
import Derived.Test.YtfckikehphmdjaaRows
import Derived.Test.YtfckikehphmdjaaAlive
import Derived.ChangeSame
import Derived.OpenShut
import Derived.Lib.SmallJoins
import Derived.Deep.Slices
namespace Go.Proofs.Ytfckikehphmdjaa
open Go.Joins Go.ChangeShapes Go.WideShapes Go.RowKit Go.Deep

/-- A slice of bools that came in. -/
def ActsIn (w : World) (a : Option Addr) (len cap : Nat) : Prop :=
  len ≤ cap ∧ cap ≤ maxLen ∧ (0 < len → ∃ g o, a = some ⟨g, o, none⟩ ∧ g < w.heap.size ∧ ∀ t, t < len → ∃ z, w.cell? ⟨g, o + t, none⟩ = some (.bool z))
theorem add_none (g o t : Nat) : (⟨g, o, none⟩ : Addr).add t = ⟨g, o + t, none⟩ := by unfold Addr.add; split <;> simp_all
theorem cell_lt {w : World} {a : Addr} {v : Value} (h : w.cell? a = some v) : a.block < w.heap.size := by
  rcases Nat.lt_or_ge a.block w.heap.size with hlt | hge
  · exact hlt
  · unfold World.cell? at h; rw [Array.getElem?_eq_none hge] at h; simp at h
section
variable {H : Type} {enc : TypeId × Value → H} {w : World} {base : Nat} {spare : Nat → Bool} {held : Bool} {a : Option Addr} {len cap : Nat} {d : DataW H} {ps : List MemPlace}
theorem open_acts_in (h : DataW.Trod enc Try.prog w base spare held 22 (.slice a len cap) d ps) : ActsIn w a len cap := by
  obtain ⟨fuel, hf⟩ := h
  rcases open_slice1 Try.underlying22 (by kernel_rfl) hf with ⟨hcs, _⟩ | ⟨x, l, c, m, n, V, D, Pl, hcs, _, hl, hm, hmm, _, hx⟩
  · simp [Value.cells] at hcs
    obtain ⟨rfl, rfl, rfl⟩ := hcs
    exact ⟨Nat.le_refl _, by unfold maxLen; omega, fun h => by omega⟩
  · simp [Value.cells] at hcs
    obtain ⟨rfl, rfl, rfl⟩ := hcs
    have hlm : len ≤ m := by rw [hmm]; split <;> omega
    have each : ∀ t, t < len → ∃ z, w.cell? (x.add t) = some (.bool z) := fun t ht => by
      obtain ⟨h1, h2⟩ := hx t (by omega)
      obtain ⟨b, h3, _⟩ := DataW.trod_bool Try.underlying4 h2
      have h4 : V t = .bool b := by simpa using h3
      exact ⟨b, h1.trans (by rw [h4])⟩
    refine ⟨hl, hm, fun h0 => ?_⟩
    obtain ⟨g, off, spot⟩ := x
    have hspot : spot = none := by
      obtain ⟨_, c0⟩ := each 0 h0
      simpa [Addr.add] using World.cell?_spot c0
    subst hspot
    refine ⟨g, off, rfl, ?_, fun t ht => ?_⟩
    · obtain ⟨_, c0⟩ := each 0 h0
      exact cell_lt c0
    · obtain ⟨z, c0⟩ := each t ht
      rw [add_none] at c0
      exact ⟨z, c0⟩
end
theorem ActsIn.at {w wi : World} {a : Option Addr} {len cap i : Nat} (h : ActsIn w a len cap) (hi : i < len) (hb : Below w.heap.size w wi) : ∃ g o z, a = some ⟨g, o, none⟩ ∧ wi.cell? ⟨g, o + i, none⟩ = some (.bool z) := by
  obtain ⟨g, o, ha, hg, hc⟩ := h.2.2 (by omega)
  obtain ⟨z, hz⟩ := hc i hi
  exact ⟨g, o, z, ha, (hb.cell (p := ⟨g, _, none⟩) hg).trans hz⟩
end Go.Proofs.Ytfckikehphmdjaa
