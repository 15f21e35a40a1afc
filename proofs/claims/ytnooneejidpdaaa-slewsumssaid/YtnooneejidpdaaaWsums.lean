/- SlewSums' walk. -/
import Derived.Test.YtnooneejidpdaaaSt
import Derived.Test.YtnooneejidpdaaaMod
import Derived.Deep.CutBlock
import Derived.Deep.DeepCutAuto
namespace Go.Proofs.Ytnooneejidpdaaa
open Go.RowKit

/-- What the first statement leaves. -/
structure Laid6 (n0 n1 y0 y1 z2 z3 : Int) (w wc : World) (a b : Nat) : Prop where
  box : wc.heap[w.heap.size]? = some (.cells #[.int .i64 n0, .int .i64 n1] 22)
  by_ : wc.heap[a]? = some (.cells #[.int .i64 y0, .int .i64 y1] 22)
  st : wc.heap[b]? = some (.cells #[.int .u32 z2, .int .u32 z3] 54)
  bel : Below w.heap.size w wc
def Cut6 (n0 n1 y0 y1 z2 z3 : Int) (w : World) (s7 s8 : Value) (wc : World) : Prop := ∃ a b, s7 = .pointer (some ⟨a, 0, none⟩) ∧ s8 = .pointer (some ⟨b, 0, none⟩) ∧ Laid6 n0 n1 y0 y1 z2 z3 w wc a b
theorem Laid6.below {n0 n1 y0 y1 z2 z3 : Int} {w wc wd : World} {a b : Nat} (l : Laid6 n0 n1 y0 y1 z2 z3 w wc a b) (h : Below wc.heap.size wc wd) : Laid6 n0 n1 y0 y1 z2 z3 w wd a b :=
  ⟨Below.keeps h l.box, Below.keeps h l.by_, Below.keeps h l.st, bel_trans l.bel h⟩
theorem laid1 (n0 n1 y0 y1 z2 z3 : Int) (w : World) (o : Obj) : Laid6 n0 n1 y0 y1 z2 z3 w ((((w.alloc (.cells #[.int .i64 n0, .int .i64 n1] 22)).alloc o).alloc (.cells #[.int .i64 y0, .int .i64 y1] 22)).alloc (.cells #[.int .u32 z2, .int .u32 z3] 54)).drew (w.heap.size + 2) (w.heap.size + 3) := by
  refine ⟨?_, ?_, ?_, ?_⟩
  · show ((((w.alloc (.cells #[.int .i64 n0, .int .i64 n1] 22)).alloc o).alloc (.cells #[.int .i64 y0, .int .i64 y1] 22)).alloc (.cells #[.int .u32 z2, .int .u32 z3] 54)).heap[w.heap.size]? = _
    rw [Below.heap_alloc _ _ _ (by simp; omega), Below.heap_alloc _ _ _ (by simp; omega), Below.heap_alloc _ _ _ (by simp)]
    exact heap_alloc_new w _
  · show ((((w.alloc (.cells #[.int .i64 n0, .int .i64 n1] 22)).alloc o).alloc (.cells #[.int .i64 y0, .int .i64 y1] 22)).alloc (.cells #[.int .u32 z2, .int .u32 z3] 54)).heap[w.heap.size + 2]? = _
    rw [show w.heap.size + 2 = ((w.alloc (.cells #[.int .i64 n0, .int .i64 n1] 22)).alloc o).heap.size from by simp, Below.heap_alloc _ _ _ (by simp)]
    exact heap_alloc_new _ _
  · show ((((w.alloc (.cells #[.int .i64 n0, .int .i64 n1] 22)).alloc o).alloc (.cells #[.int .i64 y0, .int .i64 y1] 22)).alloc (.cells #[.int .u32 z2, .int .u32 z3] 54)).heap[w.heap.size + 3]? = _
    rw [show w.heap.size + 3 = (((w.alloc (.cells #[.int .i64 n0, .int .i64 n1] 22)).alloc o).alloc (.cells #[.int .i64 y0, .int .i64 y1] 22)).heap.size from by simp]
    exact heap_alloc_new _ _
  · exact ((((((Below.refl _ _).alloc (Nat.le_refl _) _).alloc (by simp) _).alloc (by simp; omega) _).alloc (by simp; omega) _)).drew
theorem laid2 (n0 n1 y0 y1 z2 z3 : Int) (w : World) (o : Obj) : Laid6 n0 n1 y0 y1 z2 z3 w ((((w.alloc (.cells #[.int .i64 n0, .int .i64 n1] 22)).alloc o).alloc (.cells #[.int .u32 z2, .int .u32 z3] 54)).alloc (.cells #[.int .i64 y0, .int .i64 y1] 22)).drew (w.heap.size + 3) (w.heap.size + 2) := by
  refine ⟨?_, ?_, ?_, ?_⟩
  · show ((((w.alloc (.cells #[.int .i64 n0, .int .i64 n1] 22)).alloc o).alloc (.cells #[.int .u32 z2, .int .u32 z3] 54)).alloc (.cells #[.int .i64 y0, .int .i64 y1] 22)).heap[w.heap.size]? = _
    rw [Below.heap_alloc _ _ _ (by simp; omega), Below.heap_alloc _ _ _ (by simp; omega), Below.heap_alloc _ _ _ (by simp)]
    exact heap_alloc_new w _
  · show ((((w.alloc (.cells #[.int .i64 n0, .int .i64 n1] 22)).alloc o).alloc (.cells #[.int .u32 z2, .int .u32 z3] 54)).alloc (.cells #[.int .i64 y0, .int .i64 y1] 22)).heap[w.heap.size + 3]? = _
    rw [show w.heap.size + 3 = (((w.alloc (.cells #[.int .i64 n0, .int .i64 n1] 22)).alloc o).alloc (.cells #[.int .u32 z2, .int .u32 z3] 54)).heap.size from by simp]
    exact heap_alloc_new _ _
  · show ((((w.alloc (.cells #[.int .i64 n0, .int .i64 n1] 22)).alloc o).alloc (.cells #[.int .u32 z2, .int .u32 z3] 54)).alloc (.cells #[.int .i64 y0, .int .i64 y1] 22)).heap[w.heap.size + 2]? = _
    rw [show w.heap.size + 2 = ((w.alloc (.cells #[.int .i64 n0, .int .i64 n1] 22)).alloc o).heap.size from by simp, Below.heap_alloc _ _ _ (by simp)]
    exact heap_alloc_new _ _
  · exact ((((((Below.refl _ _).alloc (Nat.le_refl _) _).alloc (by simp) _).alloc (by simp; omega) _).alloc (by simp; omega) _)).drew

set_option maxRecDepth 100000 in
set_option maxHeartbeats 4000000 in
theorem walk_sums (n0 n1 n y0 y1 y2 y3 : Int) (w : World) (u1 : 0 ≤ n) (u2 : n ≤ 65535) : Calls Try.prog 6 #[.agg #[.int .i64 n0, .int .i64 n1], .int .u16 n, .agg #[.int .i64 y0, .int .i64 y1, .int .i64 y2, .int .i64 y3]] w fun e w' => e = .returned (.bool true) ∧ Below w.heap.size w w' := by
  have KR := Lib.hid (fun w => rate_any n w u1 (by omega))
  obtain ⟨r, hr⟩ : ∃ r, r = 1 + n % 500 := ⟨_, rfl⟩
  rw [← hr] at KR
  have r1 : 1 ≤ r := by omega
  have r2 : r ≤ 500 := by omega
  clear hr
  go_enter Try.func6, Try.ntmps6
  go_wp2_with fail
  go_cut [7, 8] from 29 to 40 (fun s7 s8 wc => Cut6 n0 n1 y0 y1 (y2 % 4294967296) (y3 % 4294967296) w s7 s8 wc)
  case first =>
    go_region
    all_goals
      go_wp2
      go_meet
      first
        | exact ⟨_, _, rfl, rfl, laid1 _ _ _ _ _ _ _ _⟩
        | exact ⟨_, _, rfl, rfl, laid2 _ _ _ _ _ _ _ _⟩
  case rest =>
    obtain ⟨a, b, rfl, rfl, hl⟩ := hcut
    have v1 : 0 ≤ y2 % 4294967296 := by omega
    have v2 : y2 % 4294967296 ≤ 4294967295 := by omega
    have v3 : 0 ≤ y3 % 4294967296 := by omega
    have v4 : y3 % 4294967296 ≤ 4294967295 := by omega
    generalize y2 % 4294967296 = s0 at *
    generalize y3 % 4294967296 = s1 at *
    have c0 : wc.cell? ⟨w.heap.size, 0, none⟩ = some (.int .i64 n0) := cell_of_row _ _ 0 _ _ _ hl.box
    have c1 : wc.cell? ⟨w.heap.size, 1, none⟩ = some (.int .i64 n1) := cell_of_row _ _ 1 _ _ _ hl.box
    have L1 := Lib.hid hl
    clear hl
    go_wp2_with fail
    obtain ⟨h1, h2⟩ := hard_bd n0
    obtain ⟨k1, k2⟩ := tmod_bd n1 1152921504606846976 (by omega)
    generalize wrap64 ((IntKind.u64.wrap n0).tmod 2305843009213693952) = h at *
    generalize n1.tmod 1152921504606846976 = c at *
    refine (KR.out _).mono ?_
    rintro e w0 ⟨rfl, rfl⟩
    have f : Fit h c r := ⟨by omega, by omega, by omega, by omega, r1, r2⟩
    have KN := Lib.hid (fun w => new_ex (w := w) f)
    have O := Lib.hid f.ok
    have KL := Lib.hid (fun w => alive_any w)
    clear f
    go_wp2_with fail
    refine (KN.out _).mono ?_
    rintro e w1 ⟨g, rfl, hg, hc1, hw1⟩
    have L2 := Lib.hid (And.intro (L1.out.below hw1) (And.intro hc1 (show w.heap.size ≤ g from Nat.le_trans L1.out.bel.size hg)))
    clear hg hc1 hw1 L1 c0 c1
    go_wp2_with fail
    refine (KL.out _).mono ?_
    rintro e w2 ⟨rfl, hw2⟩
    have L3 := Lib.hid (And.intro (L2.out.1.below hw2) (And.intro (L2.out.2.1.below hw2) L2.out.2.2))
    clear hw2 L2
    have d0 : w2.cell? ⟨a, 0, none⟩ = some (.int .i64 y0) := cell_of_row _ _ 0 _ _ _ L3.out.1.by_
    have d1 : w2.cell? ⟨a, 1, none⟩ = some (.int .i64 y1) := cell_of_row _ _ 1 _ _ _ L3.out.1.by_
    have d2 : w2.cell? ⟨b, 0, none⟩ = some (.int .u32 s0) := cell_of_row _ _ 0 _ _ _ L3.out.1.st
    have d3 : w2.cell? ⟨b, 1, none⟩ = some (.int .u32 s1) := cell_of_row _ _ 1 _ _ _ L3.out.1.st
    go_wp2_with fail
    go_quiet (fail)
    go_wp2_with fail
    go_quiet (fail)
    generalize hW : World.drewN (World.drewN w2 _) _ = W
    have S0 : Clk 64 W g ⟨r, h, c, 0, 0⟩ ∧ Below w.heap.size w W ∧ w.heap.size ≤ g := by
      subst hW
      exact ⟨L3.out.2.1, ⟨L3.out.1.bel.os, L3.out.1.bel.tape, L3.out.1.bel.output, L3.out.1.bel.size, L3.out.1.bel.block⟩, L3.out.2.2⟩
    have S1 := Lib.hid S0
    clear S0 hW L3 d0 d1 d2 d3 KN KL KR
    obtain ⟨p1, p2⟩ := tmod_bd y0 1152921504606846976 (by omega)
    obtain ⟨q1, q2⟩ := tmod_bd y1 1152921504606846976 (by omega)
    generalize y0.tmod 1152921504606846976 = p at *
    generalize y1.tmod 1152921504606846976 = q at *
    have KA := Lib.hid (fun b w hc => adjust_any b ⟨r, h, c, 0, 0⟩ h w hc O.out p)
    rw [show (Ck.mk r h c 0 0).put h p = ⟨r, h, c, p, 0⟩ from (put_base O.out p).trans (by rw [kept_in (by omega) (by omega)]), show (Ck.mk r h c 0 0).err h = 0 from Ck.err_of (Int.le_refl _) (by omega)] at KA
    have o1 : (Ck.mk r h c p 0).Ok := by constructor <;> simp only <;> omega
    have e1 : (Ck.mk r h c p 0).err (h + s0) = 0 := Ck.err_of (by simp only; omega) (by omega)
    have g1 := cor_sign (l := p) (d := s0) (r := r) v1 (by omega)
    have KL1 := Lib.hid (fun b w hc => left_any b ⟨r, h, c, p, 0⟩ (h + s0) w hc o1)
    have KS1 := Lib.hid (fun b w hc => slewed_any b ⟨r, h, c, p, 0⟩ (h + s0) w hc o1)
    have KR1 := Lib.hid (fun b w hc => read_any b ⟨r, h, c, p, 0⟩ (h + s0) w hc o1)
    have KA1 := Lib.hid (fun b w hc => adjust_any b ⟨r, h, c, p, 0⟩ (h + s0) w hc o1 q)
    have o2 := o1.put (h + s0) q
    rw [show lf (Ck.mk r h c p 0) (h + s0) = p - cor p s0 r from (lf_ok (by simp only; omega) (by omega)).trans (by simp only; rw [show h + s0 - h = s0 by omega]), e1] at KL1
    rw [show sl (Ck.mk r h c p 0) (h + s0) = cor p s0 r from (sl_ok (by simp only; omega) (by omega)).trans (by simp only; rw [show h + s0 - h = s0 by omega]; omega), e1] at KS1
    rw [show rd (Ck.mk r h c p 0) (h + s0) = c + s0 + cor p s0 r from (rd_ok (by simp only; omega) (by omega)).trans (by simp only; rw [show h + s0 - h = s0 by omega]), e1] at KR1
    have ep : (Ck.mk r h c p 0).put (h + s0) q = ⟨r, h + s0, c + s0 + cor p s0 r, q, cor p s0 r⟩ := by
      unfold Ck.put
      rw [if_pos e1]
      unfold Ck.adj Ck.now
      simp only
      rw [show h + s0 - h = s0 by omega, kept_in (by omega) (by omega), Int.zero_add]
    rw [ep] at o2
    rw [ep, e1] at KA1
    generalize cor p s0 r = A at *
    have e2 : (Ck.mk r (h + s0) (c + s0 + A) q A).err (h + s0 + s1) = 0 := Ck.err_of (by simp only; omega) (by omega)
    have g2 := cor_sign (l := q) (d := s1) (r := r) v3 (by omega)
    have KL2 := Lib.hid (fun b w hc => left_any b ⟨r, h + s0, c + s0 + A, q, A⟩ (h + s0 + s1) w hc o2)
    have KS2 := Lib.hid (fun b w hc => slewed_any b ⟨r, h + s0, c + s0 + A, q, A⟩ (h + s0 + s1) w hc o2)
    have KR2 := Lib.hid (fun b w hc => read_any b ⟨r, h + s0, c + s0 + A, q, A⟩ (h + s0 + s1) w hc o2)
    rw [show lf (Ck.mk r (h + s0) (c + s0 + A) q A) (h + s0 + s1) = q - cor q s1 r from (lf_ok (by simp only; omega) (by omega)).trans (by simp only; rw [show h + s0 + s1 - (h + s0) = s1 by omega]), e2] at KL2
    rw [show sl (Ck.mk r (h + s0) (c + s0 + A) q A) (h + s0 + s1) = A + cor q s1 r from (sl_ok (by simp only; omega) (by omega)).trans (by simp only; rw [show h + s0 + s1 - (h + s0) = s1 by omega]), e2] at KS2
    rw [show rd (Ck.mk r (h + s0) (c + s0 + A) q A) (h + s0 + s1) = c + s0 + A + s1 + cor q s1 r from (rd_ok (by simp only; omega) (by omega)).trans (by simp only; rw [show h + s0 + s1 - (h + s0) = s1 by omega]), e2] at KR2
    generalize cor q s1 r = B at *
    have m1 : min 0 p ≤ A ∧ A ≤ max 0 p ∧ min 0 p ≤ p - A ∧ p - A ≤ max 0 p := by omega
    have m2 : min 0 q ≤ B ∧ B ≤ max 0 q ∧ min 0 q ≤ q - B ∧ q - B ≤ max 0 q := by omega
    have A1 : -1152921504606846976 < A ∧ A < 1152921504606846976 := by omega
    have B1 : -1152921504606846976 < B ∧ B < 1152921504606846976 := by omega
    obtain ⟨m11, m12, m13, m14⟩ := m1
    obtain ⟨m21, m22, m23, m24⟩ := m2
    obtain ⟨A1, A2⟩ := A1
    obtain ⟨B1, B2⟩ := B1
    clear g1 g2 o1 o2 e1 e2 ep O
    go_wp2_with fail
    refine (KA.out _ _ S1.out.1).mono ?_
    rintro e x1 ⟨rfl, hc1, hw1⟩
    have S2 := Lib.hid (And.intro hc1 (And.intro (bel_but S1.out.2.1 hw1 S1.out.2.2) S1.out.2.2))
    clear hc1 hw1 S1 KA
    go_wp2_with fail
    refine (KL1.out _ _ S2.out.1).mono ?_
    rintro e x2 ⟨rfl, hw2⟩
    have S3 := Lib.hid (And.intro (S2.out.1.below hw2) (And.intro (bel_trans S2.out.2.1 hw2) S2.out.2.2))
    clear hw2 S2 KL1
    go_wp2_with fail
    refine (KS1.out _ _ S3.out.1).mono ?_
    rintro e x3 ⟨rfl, hw3⟩
    have S4 := Lib.hid (And.intro (S3.out.1.below hw3) (And.intro (bel_trans S3.out.2.1 hw3) S3.out.2.2))
    clear hw3 S3 KS1
    go_wp2_with fail
    refine (KR1.out _ _ S4.out.1).mono ?_
    rintro e x4 ⟨rfl, hw4⟩
    have S5 := Lib.hid (And.intro (S4.out.1.below hw4) (And.intro (bel_trans S4.out.2.1 hw4) S4.out.2.2))
    clear hw4 S4 KR1
    go_wp2_with fail
    all_goals first
      | (rename_i hx; exfalso; simp only [bne_iff_ne, ne_eq] at hx; omega)
      | skip
    refine (KA1.out _ _ S5.out.1).mono ?_
    rintro e x5 ⟨rfl, hc5, hw5⟩
    have S6 := Lib.hid (And.intro hc5 (And.intro (bel_but S5.out.2.1 hw5 S5.out.2.2) S5.out.2.2))
    clear hc5 hw5 S5 KA1
    go_wp2_with fail
    refine (KL2.out _ _ S6.out.1).mono ?_
    rintro e x6 ⟨rfl, hw6⟩
    have S7 := Lib.hid (And.intro (S6.out.1.below hw6) (And.intro (bel_trans S6.out.2.1 hw6) S6.out.2.2))
    clear hw6 S6 KL2
    go_wp2_with fail
    refine (KS2.out _ _ S7.out.1).mono ?_
    rintro e x7 ⟨rfl, hw7⟩
    have S8 := Lib.hid (And.intro (S7.out.1.below hw7) (And.intro (bel_trans S7.out.2.1 hw7) S7.out.2.2))
    clear hw7 S7 KS2
    go_wp2_with fail
    refine (KR2.out _ _ S8.out.1).mono ?_
    rintro e x8 ⟨rfl, hw8⟩
    have S9 := Lib.hid (bel_trans S8.out.2.1 hw8)
    clear hw8 S8 KR2
    go_wp2
    rw [show (c + s0 + A + s1 + B == c + (h + s0 + s1 - h) + (A + B)) = true from by simp only [beq_iff_eq]; omega]
    go_ret
    exact ⟨rfl, S9.out⟩
end Go.Proofs.Ytnooneejidpdaaa
