/- An argument that is a packet by value: opened to its numbers. -/
import Derived.Test.YtfknefpfekjnnaaRows
import Derived.ChangeSame
import Derived.OpenShut
import Derived.Lib.SmallJoins
import Derived.Test.YtfknefpfekjnnaaPget
namespace Go.Proofs.Ytfknefpfekjnnaa
open Go.Joins Go.ChangeShapes Go.WideShapes Go.RowKit Go.Deep

theorem cells26 : Try.prog.cellsOf 57 = 13 := by kernel_rfl
theorem list13 {α : Type} (l : List α) (h : l.length = 13) : ∃ c0 c1 c2 c3 c4 c5 c6 c7 c8 c9 c10 c11 c12, l = [c0, c1, c2, c3, c4, c5, c6, c7, c8, c9, c10, c11, c12] := by
  match l, h with
  | [c0, c1, c2, c3, c4, c5, c6, c7, c8, c9, c10, c11, c12], _ => exact ⟨c0, c1, c2, c3, c4, c5, c6, c7, c8, c9, c10, c11, c12, rfl⟩

set_option maxRecDepth 100000 in
theorem open_pk {H : Type} {enc : TypeId × Value → H} {w : World} {base : Nat} {spare : Nat → Bool} {held : Bool} {r : Reach} {b0 : Nat} {v : Value} {d : DataW H} {ps : List MemPlace}
    (hv : Value.okWide Try.prog w r b0 57 v) (h : DataW.Trod enc Try.prog w base spare held 57 v d ps) :
    ∃ a0 a1 a2 a3 a4 a5 a6 a7 a8 a9 a10 a11 a12 : Int, v = .agg #[.int .u8 a0, .int .u8 a1, .int .u8 a2, .int .u8 a3, .int .i8 a4, .int .i8 a5, .int .u32 a6, .int .u32 a7, .int .u32 a8, .int .u64 a9, .int .u64 a10, .int .u64 a11, .int .u64 a12] ∧ (Lit.int .u8 a0).wf = true ∧ (Lit.int .u8 a1).wf = true ∧ (Lit.int .u8 a2).wf = true ∧ (Lit.int .u8 a3).wf = true ∧ (Lit.int .i8 a4).wf = true ∧ (Lit.int .i8 a5).wf = true ∧ (Lit.int .u32 a6).wf = true ∧ (Lit.int .u32 a7).wf = true ∧ (Lit.int .u32 a8).wf = true ∧ (Lit.int .u64 a9).wf = true ∧ (Lit.int .u64 a10).wf = true ∧ (Lit.int .u64 a11).wf = true ∧ (Lit.int .u64 a12).wf = true := by
  obtain ⟨cs, rfl, hsz⟩ := okWide_struct Try.underlying57 hv
  obtain ⟨l⟩ := cs
  obtain ⟨c0, c1, c2, c3, c4, c5, c6, c7, c8, c9, c10, c11, c12, rfl⟩ := list13 l (by have := hsz.trans cells26; simpa using this)
  obtain ⟨fuel, hf⟩ := h
  obtain ⟨xs, m, _, hx, _, hlen, hg⟩ := DataW.trod_struct Try.underlying57 hf
  have g0 : DataW.trod enc Try.prog w base spare held m 5 [c0] = xs[0]? := hg 0 _ rfl
  obtain ⟨y0, hy0⟩ : ∃ y, xs[0]? = some y := ⟨xs[0]'(by have : xs.length = 13 := hlen; omega), List.getElem?_eq_getElem _⟩
  obtain ⟨a0, e0, _, w0⟩ := DataW.trod_int Try.underlying5 (g0.trans hy0)
  obtain rfl : c0 = .int .u8 a0 := by simpa using e0
  have g1 : DataW.trod enc Try.prog w base spare held m 5 [c1] = xs[1]? := hg 1 _ rfl
  obtain ⟨y1, hy1⟩ : ∃ y, xs[1]? = some y := ⟨xs[1]'(by have : xs.length = 13 := hlen; omega), List.getElem?_eq_getElem _⟩
  obtain ⟨a1, e1, _, w1⟩ := DataW.trod_int Try.underlying5 (g1.trans hy1)
  obtain rfl : c1 = .int .u8 a1 := by simpa using e1
  have g2 : DataW.trod enc Try.prog w base spare held m 5 [c2] = xs[2]? := hg 2 _ rfl
  obtain ⟨y2, hy2⟩ : ∃ y, xs[2]? = some y := ⟨xs[2]'(by have : xs.length = 13 := hlen; omega), List.getElem?_eq_getElem _⟩
  obtain ⟨a2, e2, _, w2⟩ := DataW.trod_int Try.underlying5 (g2.trans hy2)
  obtain rfl : c2 = .int .u8 a2 := by simpa using e2
  have g3 : DataW.trod enc Try.prog w base spare held m 5 [c3] = xs[3]? := hg 3 _ rfl
  obtain ⟨y3, hy3⟩ : ∃ y, xs[3]? = some y := ⟨xs[3]'(by have : xs.length = 13 := hlen; omega), List.getElem?_eq_getElem _⟩
  obtain ⟨a3, e3, _, w3⟩ := DataW.trod_int Try.underlying5 (g3.trans hy3)
  obtain rfl : c3 = .int .u8 a3 := by simpa using e3
  have g4 : DataW.trod enc Try.prog w base spare held m 54 [c4] = xs[4]? := hg 4 _ rfl
  obtain ⟨y4, hy4⟩ : ∃ y, xs[4]? = some y := ⟨xs[4]'(by have : xs.length = 13 := hlen; omega), List.getElem?_eq_getElem _⟩
  obtain ⟨a4, e4, _, w4⟩ := DataW.trod_int Try.underlying54 (g4.trans hy4)
  obtain rfl : c4 = .int .i8 a4 := by simpa using e4
  have g5 : DataW.trod enc Try.prog w base spare held m 54 [c5] = xs[5]? := hg 5 _ rfl
  obtain ⟨y5, hy5⟩ : ∃ y, xs[5]? = some y := ⟨xs[5]'(by have : xs.length = 13 := hlen; omega), List.getElem?_eq_getElem _⟩
  obtain ⟨a5, e5, _, w5⟩ := DataW.trod_int Try.underlying54 (g5.trans hy5)
  obtain rfl : c5 = .int .i8 a5 := by simpa using e5
  have g6 : DataW.trod enc Try.prog w base spare held m 55 [c6] = xs[6]? := hg 6 _ rfl
  obtain ⟨y6, hy6⟩ : ∃ y, xs[6]? = some y := ⟨xs[6]'(by have : xs.length = 13 := hlen; omega), List.getElem?_eq_getElem _⟩
  obtain ⟨a6, e6, _, w6⟩ := DataW.trod_int Try.underlying55 (g6.trans hy6)
  obtain rfl : c6 = .int .u32 a6 := by simpa using e6
  have g7 : DataW.trod enc Try.prog w base spare held m 55 [c7] = xs[7]? := hg 7 _ rfl
  obtain ⟨y7, hy7⟩ : ∃ y, xs[7]? = some y := ⟨xs[7]'(by have : xs.length = 13 := hlen; omega), List.getElem?_eq_getElem _⟩
  obtain ⟨a7, e7, _, w7⟩ := DataW.trod_int Try.underlying55 (g7.trans hy7)
  obtain rfl : c7 = .int .u32 a7 := by simpa using e7
  have g8 : DataW.trod enc Try.prog w base spare held m 55 [c8] = xs[8]? := hg 8 _ rfl
  obtain ⟨y8, hy8⟩ : ∃ y, xs[8]? = some y := ⟨xs[8]'(by have : xs.length = 13 := hlen; omega), List.getElem?_eq_getElem _⟩
  obtain ⟨a8, e8, _, w8⟩ := DataW.trod_int Try.underlying55 (g8.trans hy8)
  obtain rfl : c8 = .int .u32 a8 := by simpa using e8
  have g9 : DataW.trod enc Try.prog w base spare held m 34 [c9] = xs[9]? := hg 9 _ rfl
  obtain ⟨y9, hy9⟩ : ∃ y, xs[9]? = some y := ⟨xs[9]'(by have : xs.length = 13 := hlen; omega), List.getElem?_eq_getElem _⟩
  obtain ⟨a9, e9, _, w9⟩ := DataW.trod_int Try.underlying34 (g9.trans hy9)
  obtain rfl : c9 = .int .u64 a9 := by simpa using e9
  have g10 : DataW.trod enc Try.prog w base spare held m 34 [c10] = xs[10]? := hg 10 _ rfl
  obtain ⟨y10, hy10⟩ : ∃ y, xs[10]? = some y := ⟨xs[10]'(by have : xs.length = 13 := hlen; omega), List.getElem?_eq_getElem _⟩
  obtain ⟨a10, e10, _, w10⟩ := DataW.trod_int Try.underlying34 (g10.trans hy10)
  obtain rfl : c10 = .int .u64 a10 := by simpa using e10
  have g11 : DataW.trod enc Try.prog w base spare held m 34 [c11] = xs[11]? := hg 11 _ rfl
  obtain ⟨y11, hy11⟩ : ∃ y, xs[11]? = some y := ⟨xs[11]'(by have : xs.length = 13 := hlen; omega), List.getElem?_eq_getElem _⟩
  obtain ⟨a11, e11, _, w11⟩ := DataW.trod_int Try.underlying34 (g11.trans hy11)
  obtain rfl : c11 = .int .u64 a11 := by simpa using e11
  have g12 : DataW.trod enc Try.prog w base spare held m 34 [c12] = xs[12]? := hg 12 _ rfl
  obtain ⟨y12, hy12⟩ : ∃ y, xs[12]? = some y := ⟨xs[12]'(by have : xs.length = 13 := hlen; omega), List.getElem?_eq_getElem _⟩
  obtain ⟨a12, e12, _, w12⟩ := DataW.trod_int Try.underlying34 (g12.trans hy12)
  obtain rfl : c12 = .int .u64 a12 := by simpa using e12
  exact ⟨a0, a1, a2, a3, a4, a5, a6, a7, a8, a9, a10, a11, a12, rfl, w0, w1, w2, w3, w4, w5, w6, w7, w8, w9, w10, w11, w12⟩

/-- A slice of bytes that came in. -/
def Bytes (w : World) (a : Option Addr) (len cap : Nat) (zs : List Int) : Prop :=
  zs.length = len ∧ len ≤ cap ∧ cap ≤ maxLen ∧ AllBytes zs ∧ (0 < len → ∃ g o, a = some ⟨g, o, none⟩ ∧ g < w.heap.size ∧ Has w g o zs) ∧ (a = none → cap = 0)
theorem cell_lt {w : World} {a : Addr} {v : Value} (h : w.cell? a = some v) : a.block < w.heap.size := by
  rcases Nat.lt_or_ge a.block w.heap.size with hlt | hge
  · exact hlt
  · unfold World.cell? at h; rw [Array.getElem?_eq_none hge] at h; simp at h
theorem open_bytes {H : Type} {enc : TypeId × Value → H} {w : World} {base : Nat} {spare : Nat → Bool} {held : Bool} {a : Option Addr} {len cap : Nat} {d : DataW H} {ps : List MemPlace}
    (h : DataW.Trod enc Try.prog w base spare held 35 (.slice a len cap) d ps) : ∃ zs, Bytes w a len cap zs := by
  obtain ⟨fuel, hf⟩ := h
  rcases open_ints Try.underlying35 Try.underlying5 (by kernel_rfl) hf with ⟨hcs, _⟩ | ⟨x, l, c, zs, hcs, _, hl, hm, hz, _, hcell, hwz⟩
  · simp [Value.cells] at hcs
    obtain ⟨rfl, rfl, rfl⟩ := hcs
    exact ⟨[], rfl, Nat.le_refl _, by unfold maxLen; omega, (fun z hz => by cases hz), fun h => by omega, fun _ => rfl⟩
  · simp [Value.cells] at hcs
    obtain ⟨rfl, rfl, rfl⟩ := hcs
    have hzl : len ≤ zs.length := by rw [hz]; split <;> omega
    refine ⟨zs.take len, by simp; omega, hl, hm, fun z hz => bounds_u8 (hwz z (List.mem_of_mem_take hz)), fun h0 => ?_, fun h => by cases h⟩
    obtain ⟨g, off, spot⟩ := x
    have hspot : spot = none := by simpa [Addr.add] using World.cell?_spot (hcell 0 (by omega))
    subst hspot
    refine ⟨g, off, rfl, cell_lt (hcell 0 (by omega)), fun t ht => ?_⟩
    have ht' : t < len := by simp at ht; omega
    have := hcell t (by omega)
    have e : (⟨g, off, none⟩ : Addr).add t = ⟨g, off + t, none⟩ := by unfold Addr.add; split <;> simp_all
    rw [e] at this
    rw [this]
    simp [List.getD, ht']
end Go.Proofs.Ytfknefpfekjnnaa
