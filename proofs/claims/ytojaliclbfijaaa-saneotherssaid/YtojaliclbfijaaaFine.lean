/- Packets that may be taken, and those of which one part is turned; the bytes of a packet by a function that the statement makes. -/
import Derived.Test.YtojaliclbfijaaaGood
import Derived.Deep.CutBlock
import Derived.Deep.DeepCutAuto
namespace Go.Proofs.Ytojaliclbfijaaa
open Go.RowKit

theorem cput_any (p : Pk) (w : World) (hp : p.In) (hf : p.Fits) : Calls Try.prog 15 #[.agg #[.int .u8 p.l, .int .u8 p.v, .int .u8 p.m, .int .u8 p.s, .int .i8 p.po, .int .i8 p.pr, .int .u32 p.de, .int .u32 p.di, .int .u32 p.rs, .int .u64 p.rf, .int .u64 p.og, .int .u64 p.rc, .int .u64 p.xm]] w (Gives p.bytes w) := by
  have KP := Lib.hid (fun w => put_ok p w hp hf)
  go_enter Try.func15, Try.ntmps15
  go_wp2_with fail
  refine (KP.out _).mono ?_
  rintro e w2 ⟨g, c, rfl, hg1, hg2, hc1, hc2, hh, hb⟩
  have hb2 := below_succ hb
  have HH := Lib.hid hh
  clear hb hh
  go_wp2
  go_ret
  exact ⟨g, c, rfl, by simp at hg1; omega, hg2, hc1, hc2, HH.out, below_box hb2⟩

/-- An answer to a cookie with which nothing is wrong, but that the cookie may be 0. -/
structure Fine (k : Int) (p : Pk) : Prop where
  i : p.In
  l : p.l ≤ 2
  v : p.v = 4
  m : p.m = 4
  s0 : 1 ≤ p.s
  s1 : p.s ≤ 15
  og : p.og = k
  rc : p.rc ≠ 0
  xm : p.xm ≠ 0
theorem fine_of (p : Pk) (k r x : Int) (hp : p.In) (hk : U64 k) (hr : 1 ≤ r ∧ r ≤ 18446744073709551615) (hx : 1 ≤ x ∧ x ≤ 18446744073709551615) :
    Fine k ⟨p.l % 3, 4, 4, 1 + p.s % 15, p.po, p.pr, p.de, p.di, p.rs, p.rf, k, r, x⟩ := by
  have a1 : 0 ≤ p.l % 3 ∧ p.l % 3 ≤ 2 := by omega
  have a2 : 1 ≤ 1 + p.s % 15 ∧ 1 + p.s % 15 ≤ 15 := by omega
  have a3 : r ≠ 0 := by omega
  have a4 : x ≠ 0 := by omega
  obtain ⟨k0, k1⟩ := hk
  refine ⟨{ hp with l0 := a1.1, l1 := ?_, v0 := by simp, v1 := by simp, m0 := by simp, m1 := by simp, s0 := ?_, s1 := ?_, og0 := k0, og1 := k1, rc0 := ?_, rc1 := hr.2, xm0 := ?_, xm1 := hx.2 }, a1.2, rfl, rfl, a2.1, a2.2, rfl, a3, a4⟩
  · show p.l % 3 ≤ 255; omega
  · show 0 ≤ 1 + p.s % 15; omega
  · show 1 + p.s % 15 ≤ 255; omega
  · show 0 ≤ r; omega
  · show 0 ≤ x; omega
theorem Fine.fits {k : Int} {p : Pk} (h : Fine k p) : p.Fits := ⟨by have := h.l; omega, by have := h.v; omega, by have := h.m; omega⟩
theorem Fine.taken {k : Int} {p : Pk} (h : Fine k p) (hk : k ≠ 0) : whyOf k p 0 = 0 := by
  have a1 := h.l; have a2 := h.s0; have a3 := h.s1
  have b1 : ¬ p.s = 0 := by omega
  have b2 : ¬ p.l = 3 := by omega
  have b3 : ¬ 15 < p.s := by omega
  simp [whyOf, tests, whyL, h.v, h.m, h.og, h.rc, h.xm, hk, b1, b2, b3]
theorem Fine.zero {p : Pk} (h : Fine 0 p) : whyOf 0 p 0 = 7 := by
  simp [whyOf, tests, whyL, h.v, h.m]
theorem Fine.other {k o : Int} {p : Pk} (h : Fine k p) (ho : o ≠ k) : whyOf o p 0 = 7 := by
  have b : ¬ k = o := fun e => ho e.symm
  simp [whyOf, tests, whyL, h.v, h.m, h.og, b]
/-- A packet of which nothing hinders that it is laid, and for which a cookie's answer is refused. -/
structure Turned (k y : Int) (p : Pk) : Prop where
  i : p.In
  f : p.Fits
  why : whyOf k p 0 = y
theorem turned0 {k : Int} {p : Pk} (h : Fine k p) (_ : k ≠ 0) : Turned k 5 { p with v := 3 } := ⟨{ h.i with v0 := by simp, v1 := by simp }, { h.fits with v := by simp }, by simp [whyOf, tests, whyL]⟩
theorem turned1 {k : Int} {p : Pk} (h : Fine k p) (_ : k ≠ 0) : Turned k 6 { p with m := 5 } := ⟨{ h.i with m0 := by simp, m1 := by simp }, { h.fits with m := by simp }, by simp [whyOf, tests, whyL, h.v]⟩
theorem turned2 {k : Int} {p : Pk} (h : Fine k p) (hk : k ≠ 0) : Turned k 8 { p with s := 0 } := ⟨{ h.i with s0 := by simp, s1 := by simp }, { h.fits with }, by simp [whyOf, tests, whyL, h.v, h.m, h.og, hk]⟩
theorem turned3 {k : Int} {p : Pk} (h : Fine k p) (hk : k ≠ 0) : Turned k 9 { p with l := 3 } := by
  have a2 := h.s0
  have b1 : ¬ p.s = 0 := by omega
  exact ⟨{ h.i with l0 := by simp, l1 := by simp }, { h.fits with l := by simp }, by simp [whyOf, tests, whyL, h.v, h.m, h.og, hk, b1]⟩
theorem turned4 {k : Int} {p : Pk} (h : Fine k p) (hk : k ≠ 0) : Turned k 10 { p with s := 16 } := by
  have a2 := h.l
  have b1 : ¬ p.l = 3 := by omega
  exact ⟨{ h.i with s0 := by simp, s1 := by simp }, { h.fits with }, by simp [whyOf, tests, whyL, h.v, h.m, h.og, hk, b1]⟩
theorem turned5 {k : Int} {p : Pk} (h : Fine k p) (hk : k ≠ 0) : Turned k 11 { p with rc := 0 } := by
  have a1 := h.l; have a2 := h.s0; have a3 := h.s1
  have b1 : ¬ p.s = 0 := by omega
  have b2 : ¬ p.l = 3 := by omega
  have b3 : ¬ 15 < p.s := by omega
  exact ⟨{ h.i with rc0 := by simp, rc1 := by simp }, { h.fits with }, by simp [whyOf, tests, whyL, h.v, h.m, h.og, hk, b1, b2, b3]⟩
theorem turned6 {k : Int} {p : Pk} (h : Fine k p) (hk : k ≠ 0) : Turned k 11 { p with xm := 0 } := by
  have a1 := h.l; have a2 := h.s0; have a3 := h.s1
  have b1 : ¬ p.s = 0 := by omega
  have b2 : ¬ p.l = 3 := by omega
  have b3 : ¬ 15 < p.s := by omega
  exact ⟨{ h.i with xm0 := by simp, xm1 := by simp }, { h.fits with }, by simp [whyOf, tests, whyL, h.v, h.m, h.og, hk, b1, b2, b3]⟩
theorem look_turned {k y : Int} {p : Pk} (h : Turned k y p) (g cap : Nat) (w : World) (hc1 : 48 ≤ cap) (hcm : cap ≤ maxLen) (hg : g < w.heap.size) (hc : Has w g 0 p.bytes) :
    Calls Try.prog 8 #[.slice (some ⟨g, 0, none⟩) 48 cap, .int .u64 k] w fun e w' => e = .returned (.tuple #[.agg #[.int .u8 (told y p).l, .int .u8 (told y p).v, .int .u8 (told y p).m, .int .u8 (told y p).s, .int .i8 (told y p).po, .int .i8 (told y p).pr, .int .u32 (told y p).de, .int .u32 (told y p).di, .int .u32 (told y p).rs, .int .u64 (told y p).rf, .int .u64 (told y p).og, .int .u64 (told y p).rc, .int .u64 (told y p).xm], .int .i64 y]) ∧ Below w.heap.size w w' :=
  look_own p _ k y g cap w h.i h.f hc1 hcm hg hc h.why rfl
end Go.Proofs.Ytojaliclbfijaaa
