/- LexBlanks: its arguments opened. -/
import Derived.Test.YtclcnmmhmjbjjaaDoorWblanks0
import Derived.Test.YtclcnmmhmjbjjaaDoorLaid
import Derived.Deep.Slices
namespace Go.Proofs.YtclcnmmhmjbjjaaDoor
open Go.ChangeShapes Go.WideShapes Go.ChangeAt Go.RowKit Go.Proofs.Lx Go.Deep

theorem plain_addr {w : World} {x : Addr} {u : Value} (h : w.cell? (x.add 0) = some u) : ∃ g o, x = ⟨g, o, none⟩ := by
  obtain ⟨g, off, spot⟩ := x
  have hspot : spot = none := by simpa [Addr.add] using World.cell?_spot h
  subst hspot
  exact ⟨g, off, rfl⟩
theorem plain_add (g o t : Nat) : (⟨g, o, none⟩ : Addr).add t = ⟨g, o + t, none⟩ := by unfold Addr.add; split <;> simp_all
theorem nums_of {H : Type} {enc : TypeId × Value → H} {w : World} {base : Nat} {spare : Nat → Bool} {held : Bool} {fuel : Nat} {cs : List Value} {x : DataW H × List MemPlace} {k : IntKind} {top : Nat} {t e : TypeId}
    (bnd : ∀ z, (Lit.int k z).wf = true → 0 ≤ z ∧ z ≤ (top : Int)) (ht : Tryd.prog.underlying t = some (.slice e)) (he : Tryd.prog.underlying e = some (.int k)) (hc : Tryd.prog.cellsOf e = 1)
    (hf : DataW.trod enc Tryd.prog w base spare held fuel t cs = some x) : ∃ v xs, cs = [v] ∧ Nums k top w v xs := by
  rcases open_ints ht he hc hf with ⟨hcs, _⟩ | ⟨a, len, cap, zs, hcs, _, hl, hm, hz, _, hcell, hwz⟩
  · exact ⟨_, [], hcs, none, 0, rfl, Nat.le_refl _, by simp, fun h => by simp at h⟩
  · have hzl : len ≤ zs.length := by rw [hz]; split <;> omega
    have hlen : ((zs.take len).map Int.toNat).length = len := by simp; omega
    refine ⟨_, (zs.take len).map Int.toNat, hcs, some a, cap, by rw [hlen], by omega, fun y hy => ?_, fun h0 => ?_⟩
    · obtain ⟨z, hz1, rfl⟩ := List.mem_map.1 hy
      have := bnd z (hwz z (List.mem_of_mem_take hz1))
      omega
    · rw [hlen] at h0
      obtain ⟨g, o, rfl⟩ := plain_addr (hcell 0 (by omega))
      have hlt := World.block_lt_of_cell? _ _ (hcell 0 (by omega))
      rw [plain_add] at hlt
      refine ⟨g, o, rfl, hlt, fun j y hj => ?_⟩
      rw [List.getElem?_map] at hj
      obtain ⟨z, hz1, rfl⟩ := Option.map_eq_some_iff.1 hj
      have hj1 : j < len := by
        have := (List.getElem?_eq_some_iff.1 hz1).1
        simp at this; omega
      have hz2 : zs[j]? = some z := by rw [List.getElem?_take, if_pos hj1] at hz1; exact hz1
      have hb := bnd z (hwz z (List.mem_of_getElem? hz2))
      have := hcell j (by omega)
      rw [plain_add] at this
      rw [this, List.getD, hz2]
      simp only [Option.getD_some]
      rw [show ((z.toNat : Nat) : Int) = z by omega]
def In1 (w : World) (v : Value) : Prop := ∃ bs, Nums .u8 255 w v bs
def In0 (w : World) (v : Value) : Prop := ∃ ls, Rows16 w v ls
set_option maxRecDepth 100000 in
theorem open_in1 {H : Type} {enc : TypeId × Value → H} {w : World} {b0 base : Nat} {spare : Nat → Bool} {held : Bool} {v : Value} {d : DataW H} {ps : List MemPlace} (hv : Value.okWide Tryd.prog w .any b0 44 v) (h : DataW.Trod enc Tryd.prog w base spare held 44 v d ps) : In1 w v := by
  obtain ⟨A, l, c, rfl⟩ := okWide_slice Tryd.underlying44 hv
  obtain ⟨fuel, hf⟩ := h
  obtain ⟨v', xs, hcs, hn⟩ := nums_of (k := .u8) (top := 255) (fun z hz => bounds_u8 hz) Tryd.underlying44 Tryd.underlying5 (by kernel_rfl) hf
  simp [Value.cells] at hcs
  subst hcs
  exact ⟨xs, hn⟩
theorem pick_list {α : Type} {n : Nat} {P : Nat → α → Prop} (h : ∀ i, i < n → ∃ x, P i x) : ∃ l : List α, l.length = n ∧ ∀ i x, l[i]? = some x → P i x := by
  induction n with
  | zero => exact ⟨[], rfl, fun i x hx => by simp at hx⟩
  | succ n ih =>
    obtain ⟨l, hl, hp⟩ := ih (fun i hi => h i (by omega))
    obtain ⟨x, hx⟩ := h n (by omega)
    refine ⟨l ++ [x], by simp [hl], fun i y hy => ?_⟩
    rcases Nat.lt_or_ge i n with hi | hi
    · rw [List.getElem?_append_left (by omega)] at hy
      exact hp i y hy
    · have hin : i = n := by
        have := (List.getElem?_eq_some_iff.1 hy).1
        simp at this; omega
      subst hin
      rw [← hl] at hy
      simp at hy
      subst hy
      exact hx
set_option maxRecDepth 100000 in
theorem open_in0 {H : Type} {enc : TypeId × Value → H} {w : World} {b0 base : Nat} {spare : Nat → Bool} {held : Bool} {v : Value} {d : DataW H} {ps : List MemPlace} (hv : Value.okWide Tryd.prog w .any b0 43 v) (h : DataW.Trod enc Tryd.prog w base spare held 43 v d ps) : In0 w v := by
  obtain ⟨A, l, c, rfl⟩ := okWide_slice Tryd.underlying43 hv
  obtain ⟨fuel, hf⟩ := h
  rcases open_slice Tryd.underlying43 hf with ⟨hcs, _⟩ | ⟨a, len, cap, m, n, D, Pl, hcs, _, hl, hm, hmm, _, hi⟩
  · simp [Value.cells] at hcs
    obtain ⟨rfl, rfl, rfl⟩ := hcs
    exact ⟨[], none, 0, rfl, Nat.le_refl _, fun h => by simp at h⟩
  · simp [Value.cells] at hcs
    obtain ⟨rfl, rfl, rfl⟩ := hcs
    have h1 : Tryd.prog.cellsOf 46 = 1 := by kernel_rfl
    have hml : l ≤ m := by rw [hmm]; split <;> omega
    have hrow : ∀ i, i < l → ∃ xs, ∃ u, w.cell? (a.add i) = some u ∧ Nums .u16 65535 w u xs := fun i hil => by
      obtain ⟨cs', hc, ht⟩ := hi i (by omega)
      rw [h1] at hc
      obtain ⟨u, xs, rfl, hn⟩ := nums_of (k := .u16) (top := 65535) (fun z hz => bounds_u16 hz) Tryd.underlying46 Tryd.underlying47 (by kernel_rfl) ht
      obtain ⟨_, _, hat⟩ := World.cells?_some hc
      have := hat 0 (by omega)
      refine ⟨xs, u, ?_, hn⟩
      have e : (a.add (i * 1)).add 0 = a.add i := by unfold Addr.add; split <;> simp_all
      rw [e] at this
      exact this
    obtain ⟨ls, hls, hp⟩ := pick_list hrow
    refine ⟨ls, some a, c, by rw [hls], by omega, fun h0 => ?_⟩
    rw [hls] at h0
    obtain ⟨_, u0, hu0, _⟩ := hrow 0 h0
    obtain ⟨g, o, rfl⟩ := plain_addr hu0
    have hlt := World.block_lt_of_cell? _ _ hu0
    rw [plain_add] at hlt
    refine ⟨g, o, rfl, hlt, fun j xs hj => ?_⟩
    obtain ⟨u, hu, hn⟩ := hp j xs hj
    rw [plain_add] at hu
    exact ⟨u, hu, hn⟩
end Go.Proofs.YtclcnmmhmjbjjaaDoor
