/- An argument that is a config by value: opened to its numbers. -/
import Derived.Test.YtlbabhddjdhalaaDoorCf
import Derived.Test.YtlbabhddjdhalaaDoorPrint2
import Derived.Test.YtlbabhddjdhalaaDoorLaid
import Derived.Deep.Slices
import Derived.ChangeSame
import Derived.OpenShut
import Derived.Lib.SmallJoins
namespace Go.Proofs.YtlbabhddjdhalaaDoor
open Go.Joins Go.ChangeShapes Go.WideShapes Go.ChangeAt Go.RowKit Go.Proofs.Lx Go.Deep

theorem cells24 : Tryd.prog.cellsOf 24 = 6 := by kernel_rfl
theorem list6 {α : Type} (l : List α) (h : l.length = 6) : ∃ c0 c1 c2 c3 c4 c5, l = [c0, c1, c2, c3, c4, c5] := by
  match l, h with
  | [c0, c1, c2, c3, c4, c5], _ => exact ⟨c0, c1, c2, c3, c4, c5, rfl⟩
theorem plain_addr {w : World} {x : Addr} {u : Value} (h : w.cell? (x.add 0) = some u) : ∃ g o, x = ⟨g, o, none⟩ := by
  obtain ⟨g, off, spot⟩ := x
  have hspot : spot = none := by simpa [Addr.add] using World.cell?_spot h
  subst hspot
  exact ⟨g, off, rfl⟩
theorem plain_add (g o t : Nat) : (⟨g, o, none⟩ : Addr).add t = ⟨g, o + t, none⟩ := by unfold Addr.add; split <;> simp_all
theorem i64_of {n : Int} (h : (Lit.int .i64 n).wf = true) : i64 n := by
  have := bounds_i64 h
  unfold i64; omega
/-- A config that came in. -/
def CfgIn (w : World) (v : Value) : Prop := ∃ u c, v = cval u c ∧ Ints w u c.S ∧ (∀ x ∈ c.S, i64 x) ∧ i64 c.q ∧ i64 c.l ∧ i64 c.m ∧ i64 c.d ∧ i64 c.s ∧ c.S.length ≤ maxLen
set_option maxRecDepth 100000 in
theorem open_cfg {H : Type} {enc : TypeId × Value → H} {w : World} {b0 base : Nat} {spare : Nat → Bool} {held : Bool} {r : Reach} {v : Value} {d : DataW H} {ps : List MemPlace} (hv : Value.okWide Tryd.prog w r b0 24 v) (h : DataW.Trod enc Tryd.prog w base spare held 24 v d ps) : CfgIn w v := by
  obtain ⟨cs, rfl, hsz⟩ := okWide_struct Tryd.underlying24 hv
  obtain ⟨l⟩ := cs
  obtain ⟨c0, c1, c2, c3, c4, c5, rfl⟩ := list6 l (by have := hsz.trans cells24; simpa using this)
  obtain ⟨fuel, hf⟩ := h
  obtain ⟨xs, m, _, hx, _, hlen, hg⟩ := DataW.trod_struct Tryd.underlying24 hf
  have g0 : DataW.trod enc Tryd.prog w base spare held m 22 [c0] = xs[0]? := hg 0 _ rfl
  obtain ⟨y0, hy0⟩ : ∃ y, xs[0]? = some y := ⟨xs[0]'(by have : xs.length = 6 := hlen; omega), List.getElem?_eq_getElem _⟩
  have g1 : DataW.trod enc Tryd.prog w base spare held m 3 [c1] = xs[1]? := hg 1 _ rfl
  obtain ⟨y1, hy1⟩ : ∃ y, xs[1]? = some y := ⟨xs[1]'(by have : xs.length = 6 := hlen; omega), List.getElem?_eq_getElem _⟩
  obtain ⟨a1, e1, _, w1⟩ := DataW.trod_int Tryd.underlying3 (g1.trans hy1)
  obtain rfl : c1 = .int .i64 a1 := by simpa using e1
  have g2 : DataW.trod enc Tryd.prog w base spare held m 3 [c2] = xs[2]? := hg 2 _ rfl
  obtain ⟨y2, hy2⟩ : ∃ y, xs[2]? = some y := ⟨xs[2]'(by have : xs.length = 6 := hlen; omega), List.getElem?_eq_getElem _⟩
  obtain ⟨a2, e2, _, w2⟩ := DataW.trod_int Tryd.underlying3 (g2.trans hy2)
  obtain rfl : c2 = .int .i64 a2 := by simpa using e2
  have g3 : DataW.trod enc Tryd.prog w base spare held m 3 [c3] = xs[3]? := hg 3 _ rfl
  obtain ⟨y3, hy3⟩ : ∃ y, xs[3]? = some y := ⟨xs[3]'(by have : xs.length = 6 := hlen; omega), List.getElem?_eq_getElem _⟩
  obtain ⟨a3, e3, _, w3⟩ := DataW.trod_int Tryd.underlying3 (g3.trans hy3)
  obtain rfl : c3 = .int .i64 a3 := by simpa using e3
  have g4 : DataW.trod enc Tryd.prog w base spare held m 3 [c4] = xs[4]? := hg 4 _ rfl
  obtain ⟨y4, hy4⟩ : ∃ y, xs[4]? = some y := ⟨xs[4]'(by have : xs.length = 6 := hlen; omega), List.getElem?_eq_getElem _⟩
  obtain ⟨a4, e4, _, w4⟩ := DataW.trod_int Tryd.underlying3 (g4.trans hy4)
  obtain rfl : c4 = .int .i64 a4 := by simpa using e4
  have g5 : DataW.trod enc Tryd.prog w base spare held m 3 [c5] = xs[5]? := hg 5 _ rfl
  obtain ⟨y5, hy5⟩ : ∃ y, xs[5]? = some y := ⟨xs[5]'(by have : xs.length = 6 := hlen; omega), List.getElem?_eq_getElem _⟩
  obtain ⟨a5, e5, _, w5⟩ := DataW.trod_int Tryd.underlying3 (g5.trans hy5)
  obtain rfl : c5 = .int .i64 a5 := by simpa using e5
  rcases open_ints Tryd.underlying22 Tryd.underlying3 (by kernel_rfl) (g0.trans hy0) with ⟨hcs, _⟩ | ⟨a, len, cap, zs, hcs, _, hl, hm, hz, _, hcell, hwz⟩
  · obtain rfl : c0 = .slice none 0 0 := by simpa using hcs
    exact ⟨_, ⟨[], a1, a2, a3, a4, a5⟩, rfl, Ints.nil _, by simp, i64_of w1, i64_of w2, i64_of w3, i64_of w4, i64_of w5, by simp⟩
  · obtain rfl : c0 = .slice (some a) len cap := by simpa using hcs
    have hzl : len ≤ zs.length := by rw [hz]; split <;> omega
    have hlen2 : (zs.take len).length = len := by simp; omega
    refine ⟨_, ⟨zs.take len, a1, a2, a3, a4, a5⟩, rfl, ⟨some a, cap, by show _ = Value.slice (some a) (zs.take len).length cap; rw [hlen2], by show (zs.take len).length ≤ cap; rw [hlen2]; exact hl, fun h0 => ?_⟩, fun x hx => i64_of (hwz x (List.mem_of_mem_take hx)), i64_of w1, i64_of w2, i64_of w3, i64_of w4, i64_of w5, by show (zs.take len).length ≤ maxLen; rw [hlen2]; omega⟩
    replace h0 : 0 < len := by have h1 : 0 < (zs.take len).length := h0; rw [hlen2] at h1; exact h1
    obtain ⟨g, o, rfl⟩ := plain_addr (hcell 0 (by omega))
    have hlt := World.block_lt_of_cell? _ _ (hcell 0 (by omega))
    rw [plain_add] at hlt
    refine ⟨g, o, rfl, hlt, fun j y hj => ?_⟩
    replace hj : (zs.take len)[j]? = some y := hj
    have hj1 : j < len := by
      have := (List.getElem?_eq_some_iff.1 hj).1
      omega
    have hz2 : zs[j]? = some y := by simp only [List.getElem?_take, if_pos hj1] at hj; exact hj
    have := hcell j (by omega)
    rw [plain_add] at this
    rw [this, List.getD, hz2]
    rfl
end Go.Proofs.YtlbabhddjdhalaaDoor
