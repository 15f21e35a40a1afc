/- Slices of integers that came in; counts beside an array of the walk's own. -/
import Derived.Test.YtfhpckglckcdjaaDoorWnone
import Derived.Test.YtfhpckglckcdjaaDoorRtx
import Derived.OpenShut
import Derived.ChangeOld
import Derived.Deep.Slices
namespace Go.Proofs.YtfhpckglckcdjaaDoor
open Go.RowKit Go.Proofs.Lx Go.ChangeShapes Go.WideShapes Go.ChangeAt Go.Deep

/-- The integers xs lie in v. -/
def NumsK (k : IntKind) (w : World) (v : Value) (xs : List Int) : Prop :=
  ∃ (A : Option Addr) (cap : Nat), v = .slice A xs.length cap ∧ xs.length ≤ cap ∧ (∀ x ∈ xs, (Lit.int k x).wf = true) ∧ (0 < xs.length → ∃ g o, A = some ⟨g, o, none⟩ ∧ g < w.heap.size ∧ ∀ j x, xs[j]? = some x → w.cell? ⟨g, o + j, none⟩ = some (.int k x))
theorem plain_addr {w : World} {x : Addr} {u : Value} (h : w.cell? (x.add 0) = some u) : ∃ g o, x = ⟨g, o, none⟩ := by
  obtain ⟨g, off, spot⟩ := x
  have hspot : spot = none := by simpa [Addr.add] using World.cell?_spot h
  subst hspot
  exact ⟨g, off, rfl⟩
theorem plain_add (g o t : Nat) : (⟨g, o, none⟩ : Addr).add t = ⟨g, o + t, none⟩ := by unfold Addr.add; split <;> simp_all
theorem nums_of {H : Type} {enc : TypeId × Value → H} {w : World} {base : Nat} {spare : Nat → Bool} {held : Bool} {fuel : Nat} {cs : List Value} {x : DataW H × List MemPlace} {k : IntKind} {t e : TypeId}
    (ht : Tryd.prog.underlying t = some (.slice e)) (he : Tryd.prog.underlying e = some (.int k)) (hc : Tryd.prog.cellsOf e = 1)
    (hf : DataW.trod enc Tryd.prog w base spare held fuel t cs = some x) : ∃ v xs, cs = [v] ∧ NumsK k w v xs := by
  rcases open_ints ht he hc hf with ⟨hcs, _⟩ | ⟨a, len, cap, zs, hcs, _, hl, hm, hz, _, hcell, hwz⟩
  · exact ⟨_, [], hcs, none, 0, rfl, Nat.le_refl _, by simp, fun h => by simp at h⟩
  · have hzl : len ≤ zs.length := by rw [hz]; split <;> omega
    have hlen : (zs.take len).length = len := by simp; omega
    refine ⟨_, zs.take len, hcs, some a, cap, by rw [hlen], by omega, fun y hy => hwz y (List.mem_of_mem_take hy), fun h0 => ?_⟩
    rw [hlen] at h0
    obtain ⟨g, o, rfl⟩ := plain_addr (hcell 0 (by omega))
    have hlt := World.block_lt_of_cell? _ _ (hcell 0 (by omega))
    rw [plain_add] at hlt
    refine ⟨g, o, rfl, hlt, fun j y hj => ?_⟩
    have hj1 : j < len := by
      have := (List.getElem?_eq_some_iff.1 hj).1
      simp at this; omega
    have hz2 : zs[j]? = some y := by rw [List.getElem?_take, if_pos hj1] at hj; exact hj
    have := hcell j (by omega)
    rw [plain_add] at this
    rw [this, List.getD, hz2]
    rfl
theorem open_of {H : Type} {enc : TypeId × Value → H} {w : World} {base b0 : Nat} {spare : Nat → Bool} {held : Bool} {v : Value} {d : DataW H} {ps : List MemPlace} {k : IntKind} {t e : TypeId}
    (ht : Tryd.prog.underlying t = some (.slice e)) (he : Tryd.prog.underlying e = some (.int k)) (hc : Tryd.prog.cellsOf e = 1) (hv : Value.okWide Tryd.prog w .any b0 t v) (h : DataW.Trod enc Tryd.prog w base spare held t v d ps) : ∃ xs, NumsK k w v xs := by
  obtain ⟨A, l, c, rfl⟩ := okWide_slice ht hv
  obtain ⟨fuel, hf⟩ := h
  obtain ⟨v', xs, hcs, hn⟩ := nums_of ht he hc hf
  simp [Value.cells] at hcs
  subst hcs
  exact ⟨xs, hn⟩
theorem NumsK.below {k : IntKind} {w w' : World} {v : Value} {xs : List Int} (h : NumsK k w v xs) (hb : Below w.heap.size w w') : NumsK k w' v xs := by
  obtain ⟨A, cap, h1, h2, h3, h4⟩ := h
  refine ⟨A, cap, h1, h2, h3, fun h0 => ?_⟩
  obtain ⟨g, o, e, hg, hc⟩ := h4 h0
  exact ⟨g, o, e, Nat.lt_of_lt_of_le hg hb.size, fun j x hj => (hb.cell (p := ⟨g, o + j, none⟩) hg).trans (hc j x hj)⟩

/-- Counts, and an array beside them, both of the walk's own. -/
structure Ad (w wi : World) (b c : Nat) (N M : List Nat) : Prop where
  cn : Cn wi b N
  rw : Row13 26 wi c M
  bel : Below w.heap.size w wi
  own1 : w.heap.size ≤ b
  own2 : w.heap.size ≤ c
  ne : c ≠ b
section
variable {w wi wj : World} {b c : Nat} {N M K : List Nat}
theorem Ad.below (s : Ad w wi b c N M) (h : Below wi.heap.size wi wj) : Ad w wj b c N M := ⟨s.cn.below h, s.rw.below h, s.bel.trans (h.mono s.bel.size), s.own1, s.own2, s.ne⟩
theorem Ad.but (s : Ad w wi b c N M) (h : Cn wj b K) (hb : But b wi wj) : Ad w wj b c K M := ⟨h, hb.row s.rw s.ne, s.bel.trans (hb.below s.bel.size s.own1), s.own1, s.own2, s.ne⟩
theorem Ad.st (s : Ad w wi b c N M) : St w wi b N := ⟨s.cn, s.bel, s.own1⟩
theorem Ad.cs (s : Ad w wi b c N M) : Cs wi (some ⟨b, 0, none⟩) N := .inr ⟨b, rfl, s.cn⟩
/-- One number of the array is written over. -/
theorem Ad.set (s : Ad w wi b c N M) (i n : Nat) : Ad w (wi.setCell ⟨c, i, none⟩ (.int .i64 (n : Int))) b c N (M.set i n) := by
  have hb : But c wi (wi.setCell ⟨c, i, none⟩ (.int .i64 (n : Int))) := (But.of_below (Below.refl _ _)).setCell _ _
  refine ⟨hb.row s.cn (fun e => s.ne e.symm), ?_, s.bel.trans (hb.below s.bel.size s.own2), s.own1, s.own2, s.ne⟩
  have := heap_setCell_same wi c i (.int .i64 (n : Int)) _ _ _ s.rw
  rw [cells_set] at this
  exact this
end
theorem add_ad (z : Int) {w wi : World} {b c : Nat} {N M : List Nat} (s : Ad w wi b c N M) (hN : Fit N) :
    Calls Tryd.prog 9 #[.pointer (some ⟨b, 0, none⟩), .int .i64 z] wi fun e w' => (0 ≤ z ∧ z < 13 ∧ e = .returned (.int .i64 0) ∧ Ad w w' b c (bump N z.toNat) M) ∨ (¬ (0 ≤ z ∧ z < 13) ∧ e = .returned (.int .i64 10) ∧ w' = wi) := by
  by_cases h : 0 ≤ z ∧ z < 13
  · obtain ⟨i, rfl⟩ : ∃ i : Nat, z = i := ⟨z.toNat, by omega⟩
    refine (add_in b i N wi (by omega) hN s.cn).mono ?_
    rintro e w' ⟨rfl, h1, h2⟩
    exact .inl ⟨h.1, h.2, rfl, s.but h1 h2⟩
  · refine (add_out b z wi h).mono ?_
    rintro e w' ⟨rfl, rfl⟩
    exact .inr ⟨h, rfl, rfl⟩
end Go.Proofs.YtfhpckglckcdjaaDoor
