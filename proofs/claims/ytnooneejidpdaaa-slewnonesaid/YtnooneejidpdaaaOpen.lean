/- Arguments that are slices of integers, or of acts: opened to their numbers. -/
import Derived.Test.YtnooneejidpdaaaRows
import Derived.ChangeSame
import Derived.OpenShut
import Derived.Lib.SmallJoins
import Derived.Deep.Slices
namespace Go.Proofs.Ytnooneejidpdaaa
open Go.Joins Go.ChangeShapes Go.WideShapes Go.RowKit Go.Deep

/-- A slice of integers that came in. -/
def IntsIn (k : IntKind) (w : World) (a : Option Addr) (len cap : Nat) : Prop :=
  len ≤ cap ∧ cap ≤ maxLen ∧ (0 < len → ∃ g o, a = some ⟨g, o, none⟩ ∧ g < w.heap.size ∧ ∀ t, t < len → ∃ z, (Lit.int k z).wf = true ∧ w.cell? ⟨g, o + t, none⟩ = some (.int k z))
/-- A slice of acts that came in. -/
def ActsIn (w : World) (a : Option Addr) (len cap : Nat) : Prop :=
  len ≤ cap ∧ cap ≤ maxLen ∧ (0 < len → ∃ g o, a = some ⟨g, o, none⟩ ∧ g < w.heap.size ∧ ∀ t, t < len → ∃ x y z, (Lit.int .i64 x).wf = true ∧ (Lit.int .i64 y).wf = true ∧ (Lit.int .i64 z).wf = true ∧ w.cell? ⟨g, o + t * 3, none⟩ = some (.int .i64 x) ∧ w.cell? ⟨g, o + t * 3 + 1, none⟩ = some (.int .i64 y) ∧ w.cell? ⟨g, o + t * 3 + 2, none⟩ = some (.int .i64 z))
theorem cell_lt {w : World} {a : Addr} {v : Value} (h : w.cell? a = some v) : a.block < w.heap.size := by
  rcases Nat.lt_or_ge a.block w.heap.size with hlt | hge
  · exact hlt
  · unfold World.cell? at h; rw [Array.getElem?_eq_none hge] at h; simp at h
theorem add_none (g o t : Nat) : (⟨g, o, none⟩ : Addr).add t = ⟨g, o + t, none⟩ := by unfold Addr.add; split <;> simp_all
section
variable {H : Type} {enc : TypeId × Value → H} {w : World} {base : Nat} {spare : Nat → Bool} {held : Bool} {a : Option Addr} {len cap : Nat} {d : DataW H} {ps : List MemPlace}
theorem open_ints_in {t e : TypeId} {k : IntKind} (ht : Try.prog.underlying t = some (.slice e)) (he : Try.prog.underlying e = some (.int k)) (hc : Try.prog.cellsOf e = 1)
    (h : DataW.Trod enc Try.prog w base spare held t (.slice a len cap) d ps) : IntsIn k w a len cap := by
  obtain ⟨fuel, hf⟩ := h
  rcases open_ints ht he hc hf with ⟨hcs, _⟩ | ⟨x, l, c, zs, hcs, _, hl, hm, hz, _, hcell, hwz⟩
  · simp [Value.cells] at hcs
    obtain ⟨rfl, rfl, rfl⟩ := hcs
    exact ⟨Nat.le_refl _, by unfold maxLen; omega, fun h => by omega⟩
  · simp [Value.cells] at hcs
    obtain ⟨rfl, rfl, rfl⟩ := hcs
    have hzl : len ≤ zs.length := by rw [hz]; split <;> omega
    refine ⟨hl, hm, fun h0 => ?_⟩
    obtain ⟨g, off, spot⟩ := x
    have hspot : spot = none := by simpa [Addr.add] using World.cell?_spot (hcell 0 (by omega))
    subst hspot
    refine ⟨g, off, rfl, cell_lt (hcell 0 (by omega)), fun t ht => ?_⟩
    have := hcell t (by omega)
    rw [add_none] at this
    exact ⟨_, hwz _ (by simp [List.getD, show t < zs.length by omega]), this⟩
theorem cells33 : Try.prog.cellsOf 33 = 3 := by kernel_rfl
theorem open_acts_in (h : DataW.Trod enc Try.prog w base spare held 23 (.slice a len cap) d ps) : ActsIn w a len cap := by
  obtain ⟨fuel, hf⟩ := h
  rcases open_slice Try.underlying23 hf with ⟨hcs, _⟩ | ⟨x, l, c, m, n, D, Pl, hcs, _, hl, hm, hmm, _, hx⟩
  · simp [Value.cells] at hcs
    obtain ⟨rfl, rfl, rfl⟩ := hcs
    exact ⟨Nat.le_refl _, by unfold maxLen; omega, fun h => by omega⟩
  · simp [Value.cells] at hcs
    obtain ⟨rfl, rfl, rfl⟩ := hcs
    have hlm : len ≤ m := by rw [hmm]; split <;> omega
    refine ⟨hl, hm, fun h0 => ?_⟩
    have each : ∀ i, i < len → ∃ x0 y0 z0 : Int, (Lit.int .i64 x0).wf = true ∧ (Lit.int .i64 y0).wf = true ∧ (Lit.int .i64 z0).wf = true ∧ w.cell? (x.add (i * 3)) = some (.int .i64 x0) ∧ w.cell? (x.add (i * 3 + 1)) = some (.int .i64 y0) ∧ w.cell? (x.add (i * 3 + 2)) = some (.int .i64 z0) := by
      intro i hi
      obtain ⟨cs', h1, h2⟩ := hx i (by omega)
      rw [cells33] at h1
      obtain ⟨_, hlen, hcell⟩ := World.cells?_some h1
      obtain ⟨xs, k, _, _, _, hxl, hg⟩ := DataW.trod_struct Try.underlying33 h2
      match xs, hxl, cs', hlen with
      | [y0, y1, y2], _, [v0, v1, v2], _ =>
        have g0 : DataW.trod enc Try.prog w base spare held k 3 [v0] = some y0 := hg 0 _ rfl
        have g1 : DataW.trod enc Try.prog w base spare held k 2 [v1] = some y1 := hg 1 _ rfl
        have g2 : DataW.trod enc Try.prog w base spare held k 2 [v2] = some y2 := hg 2 _ rfl
        obtain ⟨a0, e0, _, w0⟩ := DataW.trod_int Try.underlying3 g0
        obtain ⟨a1, e1, _, w1⟩ := DataW.trod_int Try.underlying2 g1
        obtain ⟨a2, e2, _, w2⟩ := DataW.trod_int Try.underlying2 g2
        obtain rfl : v0 = .int .i64 a0 := by simpa using e0
        obtain rfl : v1 = .int .i64 a1 := by simpa using e1
        obtain rfl : v2 = .int .i64 a2 := by simpa using e2
        have c0 := hcell 0 (by omega)
        have c1 := hcell 1 (by omega)
        have c2 := hcell 2 (by omega)
        rw [add_add] at c0 c1 c2
        exact ⟨a0, a1, a2, w0, w1, w2, by simpa using c0, by simpa using c1, by simpa using c2⟩
    obtain ⟨g, off, spot⟩ := x
    have hspot : spot = none := by
      obtain ⟨_, _, _, _, _, _, c0, _, _⟩ := each 0 h0
      simpa [Addr.add] using World.cell?_spot c0
    subst hspot
    refine ⟨g, off, rfl, ?_, fun t ht => ?_⟩
    · obtain ⟨_, _, _, _, _, _, c0, _, _⟩ := each 0 h0
      have := cell_lt c0
      simpa [Addr.add] using this
    · obtain ⟨a0, a1, a2, w0, w1, w2, c0, c1, c2⟩ := each t ht
      rw [add_none] at c0 c1 c2
      exact ⟨a0, a1, a2, w0, w1, w2, c0, by simpa [Nat.add_assoc] using c1, by simpa [Nat.add_assoc] using c2⟩
end
end Go.Proofs.Ytnooneejidpdaaa
