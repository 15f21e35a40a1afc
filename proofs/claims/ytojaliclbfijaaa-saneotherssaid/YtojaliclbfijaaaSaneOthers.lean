/- For every packet and every two cookies the statement SaneOthers returns true: an answer is taken for its own cookie alone; one of which a part is turned is refused for that. No condition. -/
import Derived.Test.YtojaliclbfijaaaRows
import Derived.Test.YtojaliclbfijaaaFine
import Derived.Test.YtojaliclbfijaaaOpen
import Derived.WalkKit
import Derived.ProofKit
import Derived.OpenShut
import Derived.ShutString
import Derived.ChangeOld
import Derived.Below
namespace Go.Proofs.Ytojaliclbfijaaa.saneOthers
open Go.ChangeShapes Go.WideShapes Go.ChangeAt Go.RowKit
set_option linter.unusedVariables false

theorem own : ownKnob Try.prog.godebug = none := by kernel_rfl
theorem laidOut : laidOutB Try.prog = true := by kernel_rfl

set_option maxRecDepth 100000 in
set_option maxHeartbeats 8000000 in
theorem walk (p0 : Pk) (a1 : Int) (a2 : Int) (w : World) (hp0 : p0.In) (w1 : (Lit.int .u64 a1).wf = true) (w2 : (Lit.int .u64 a2).wf = true) :
    Calls Try.prog 5 #[.agg #[.int .u8 p0.l, .int .u8 p0.v, .int .u8 p0.m, .int .u8 p0.s, .int .i8 p0.po, .int .i8 p0.pr, .int .u32 p0.de, .int .u32 p0.di, .int .u32 p0.rs, .int .u64 p0.rf, .int .u64 p0.og, .int .u64 p0.rc, .int .u64 p0.xm], .int .u64 a1, .int .u64 a2] w fun e w' => e = .returned (.bool true) ∧ Below w.heap.size w w' := by
  obtain ⟨b1l, b1u⟩ := bounds_u64 w1
  obtain ⟨b2l, b2u⟩ := bounds_u64 w2
  clear w1
  clear w2
  have HP := Lib.hid hp0
  have KA := Lib.hid alive_any
  obtain ⟨i1, i2, i3, i4, i5, i6, i7, i8, i9, i10, i11, i12, i13, i14, i15, i16, i17, i18, i19, i20, i21, i22, i23, i24, i25, i26⟩ := hp0
  go_enter Try.func5, Try.ntmps5
  go_upto_region 2 with fail
  go_cut [35] (fun _ wc => ∃ P : Pk, Fine a1 P ∧ wc = w.alloc (.cells #[.int .u8 P.l, .int .u8 P.v, .int .u8 P.m, .int .u8 P.s, .int .i8 P.po, .int .i8 P.pr, .int .u32 P.de, .int .u32 P.di, .int .u32 P.rs, .int .u64 P.rf, .int .u64 P.og, .int .u64 P.rc, .int .u64 P.xm] 27))
  case first =>
    go_wp2_with fail
    all_goals
      go_meet
      first
      | exact ⟨_, fine_of p0 a1 p0.rc p0.xm HP.out ⟨b1l, b1u⟩ ⟨by omega, by omega⟩ ⟨by omega, by omega⟩, rfl⟩
      | exact ⟨_, fine_of p0 a1 p0.rc 1 HP.out ⟨b1l, b1u⟩ ⟨by omega, by omega⟩ ⟨by omega, by omega⟩, rfl⟩
      | exact ⟨_, fine_of p0 a1 1 p0.xm HP.out ⟨b1l, b1u⟩ ⟨by omega, by omega⟩ ⟨by omega, by omega⟩, rfl⟩
      | exact ⟨_, fine_of p0 a1 1 1 HP.out ⟨b1l, b1u⟩ ⟨by omega, by omega⟩ ⟨by omega, by omega⟩, rfl⟩
  case rest =>
    obtain ⟨P, hF, rfl⟩ := hcut
    have HF := Lib.hid hF
    have KC := Lib.hid (fun w => cput_any P w hF.i hF.fits)
    clear i1 i2 i3 i4 i5 i6 i7 i8 i9 i10 i11 i12 i13 i14 i15 i16 i17 i18 i19 i20 i21 i22 i23 i24 i25 i26
    by_cases hk : a1 = 0
    · subst hk
      have KL := Lib.hid (fun g cap w h1 h2 h3 h4 => look_own P zeroPk 0 7 g cap w hF.i hF.fits h1 h2 h3 h4 hF.zero rfl)
      clear hF
      go_wp2_with fail
      refine (KC.out _).mono ?_
      rintro e w1 ⟨g, c, rfl, hg1, hg2, hc1, hc2, hh, hb1⟩
      have B1 := below_succ hb1
      have H1 := Lib.hid hh
      clear hh hb1 hg1
      go_wp2_with fail
      refine (KL.out g c _ hc1 hc2 hg2 H1.out).mono ?_
      rintro e w2 ⟨rfl, hb2⟩
      go_wp2_with fail
      refine (KA.out _).mono ?_
      rintro e w3 ⟨rfl, hb3⟩
      have B3 := below_box (below_succ hb3)
      have B2 := Lib.hid hb2
      clear hb3 hb2
      go_wp2
      go_ret
      exact ⟨rfl, (below_box B1).trans ((B2.out.mono (by have := B1.size; simp at this; omega)).trans (B3.mono (by have h1 := B1.size; have h2 := B2.out.size; simp at h1; omega)))⟩
    have KL := Lib.hid (fun g cap w h1 h2 h3 h4 => look_own P P a1 0 g cap w hF.i hF.fits h1 h2 h3 h4 (hF.taken hk) rfl)
    have KO := Lib.hid (fun g cap w h1 h2 h3 h4 => look_own P (told (whyOf a2 P 0) P) a2 (whyOf a2 P 0) g cap w hF.i hF.fits h1 h2 h3 h4 rfl rfl)
    have hy2 : a2 = a1 ∨ whyOf a2 P 0 = 7 := by
      by_cases h : a2 = a1
      · exact .inl h
      · exact .inr (hF.other h)
    obtain ⟨q2, eq2⟩ : ∃ q2, q2 = told (whyOf a2 P 0) P := ⟨_, rfl⟩
    rw [← eq2] at KO
    generalize whyOf a2 P 0 = y2 at *
    have KC0 := Lib.hid (fun w => cput_any _ w (turned0 hF hk).i (turned0 hF hk).f)
    have KC1 := Lib.hid (fun w => cput_any _ w (turned1 hF hk).i (turned1 hF hk).f)
    have KC2 := Lib.hid (fun w => cput_any _ w (turned2 hF hk).i (turned2 hF hk).f)
    have KC3 := Lib.hid (fun w => cput_any _ w (turned3 hF hk).i (turned3 hF hk).f)
    have KC4 := Lib.hid (fun w => cput_any _ w (turned4 hF hk).i (turned4 hF hk).f)
    have KC5 := Lib.hid (fun w => cput_any _ w (turned5 hF hk).i (turned5 hF hk).f)
    have KC6 := Lib.hid (fun w => cput_any _ w (turned6 hF hk).i (turned6 hF hk).f)
    have KL0 := Lib.hid (look_turned (turned0 hF hk))
    have KL1 := Lib.hid (look_turned (turned1 hF hk))
    have KL2 := Lib.hid (look_turned (turned2 hF hk))
    have KL3 := Lib.hid (look_turned (turned3 hF hk))
    have KL4 := Lib.hid (look_turned (turned4 hF hk))
    have KL5 := Lib.hid (look_turned (turned5 hF hk))
    have KL6 := Lib.hid (look_turned (turned6 hF hk))
    have kb : (a1 == 0) = false := by simpa using hk
    have HY := Lib.hid hy2
    clear hF eq2 hy2 hk
    go_wp2_with fail
    refine (KC.out _).mono ?_
    rintro e w1 ⟨g, c, rfl, hg1, hg2, hc1, hc2, hh, hb1⟩
    have B1 := below_succ hb1
    have s1 : w.heap.size + 1 ≤ w1.heap.size := by have := B1.size; simp at this; omega
    have H1 := Lib.hid hh
    clear hh hb1 hg1
    go_wp2_with fail
    refine (KL.out g c _ hc1 hc2 hg2 H1.out).mono ?_
    rintro e w2 ⟨rfl, hb2⟩
    have B2 := B1.trans (hb2.mono s1)
    have s2 : w.heap.size + 1 ≤ w2.heap.size := Nat.le_trans s1 hb2.size
    have HB2 := Lib.hid B2
    clear hb2 B1
    have n0 : ∀ o, (w2.alloc o).cell? ⟨w.heap.size, 0, none⟩ = some (.int .u8 P.l) := fun o => (World.cell?_alloc_lt _ _ _ (by show w.heap.size < w2.heap.size; omega)).trans (box_cell B2 0); have n1 : ∀ o, (w2.alloc o).cell? ⟨w.heap.size, 1, none⟩ = some (.int .u8 P.v) := fun o => (World.cell?_alloc_lt _ _ _ (by show w.heap.size < w2.heap.size; omega)).trans (box_cell B2 1); have n2 : ∀ o, (w2.alloc o).cell? ⟨w.heap.size, 2, none⟩ = some (.int .u8 P.m) := fun o => (World.cell?_alloc_lt _ _ _ (by show w.heap.size < w2.heap.size; omega)).trans (box_cell B2 2); have n3 : ∀ o, (w2.alloc o).cell? ⟨w.heap.size, 3, none⟩ = some (.int .u8 P.s) := fun o => (World.cell?_alloc_lt _ _ _ (by show w.heap.size < w2.heap.size; omega)).trans (box_cell B2 3); have n4 : ∀ o, (w2.alloc o).cell? ⟨w.heap.size, 4, none⟩ = some (.int .i8 P.po) := fun o => (World.cell?_alloc_lt _ _ _ (by show w.heap.size < w2.heap.size; omega)).trans (box_cell B2 4); have n5 : ∀ o, (w2.alloc o).cell? ⟨w.heap.size, 5, none⟩ = some (.int .i8 P.pr) := fun o => (World.cell?_alloc_lt _ _ _ (by show w.heap.size < w2.heap.size; omega)).trans (box_cell B2 5); have n6 : ∀ o, (w2.alloc o).cell? ⟨w.heap.size, 6, none⟩ = some (.int .u32 P.de) := fun o => (World.cell?_alloc_lt _ _ _ (by show w.heap.size < w2.heap.size; omega)).trans (box_cell B2 6); have n7 : ∀ o, (w2.alloc o).cell? ⟨w.heap.size, 7, none⟩ = some (.int .u32 P.di) := fun o => (World.cell?_alloc_lt _ _ _ (by show w.heap.size < w2.heap.size; omega)).trans (box_cell B2 7); have n8 : ∀ o, (w2.alloc o).cell? ⟨w.heap.size, 8, none⟩ = some (.int .u32 P.rs) := fun o => (World.cell?_alloc_lt _ _ _ (by show w.heap.size < w2.heap.size; omega)).trans (box_cell B2 8); have n9 : ∀ o, (w2.alloc o).cell? ⟨w.heap.size, 9, none⟩ = some (.int .u64 P.rf) := fun o => (World.cell?_alloc_lt _ _ _ (by show w.heap.size < w2.heap.size; omega)).trans (box_cell B2 9); have n10 : ∀ o, (w2.alloc o).cell? ⟨w.heap.size, 10, none⟩ = some (.int .u64 P.og) := fun o => (World.cell?_alloc_lt _ _ _ (by show w.heap.size < w2.heap.size; omega)).trans (box_cell B2 10); have n11 : ∀ o, (w2.alloc o).cell? ⟨w.heap.size, 11, none⟩ = some (.int .u64 P.rc) := fun o => (World.cell?_alloc_lt _ _ _ (by show w.heap.size < w2.heap.size; omega)).trans (box_cell B2 11); have n12 : ∀ o, (w2.alloc o).cell? ⟨w.heap.size, 12, none⟩ = some (.int .u64 P.xm) := fun o => (World.cell?_alloc_lt _ _ _ (by show w.heap.size < w2.heap.size; omega)).trans (box_cell B2 12)
    clear B2
    go_wp2_with fail
    refine (KC.out _).mono ?_
    rintro e w3 ⟨g3, c3, rfl, hg3, hg4, hc3, hc4, hh3, hb3⟩
    have hb3' := below_succ hb3
    have s3 : w2.heap.size + 1 ≤ w3.heap.size := by have := hb3'.size; simp at this; omega
    have B3 := HB2.out.trans ((below_box hb3').mono s2)
    have H3 := Lib.hid hh3
    clear hh3 hb3 hb3' hg3 n0 n1 n2 n3 n4 n5 n6 n7 n8 n9 n10 n11 n12
    go_wp2_with fail
    refine (KO.out g3 c3 _ hc3 hc4 hg4 H3.out).mono ?_
    rintro e w4 ⟨rfl, hb4⟩
    have s4 := hb4.size
    have B4 := B3.trans (hb4.mono (by omega))
    have HB4 := Lib.hid B4
    clear hb4 B3 B4
    go_upto_region 10 with fail
    go_cut [11, 74] (fun _ s wc => s = .bool false ∧ wc = w4.alloc (.cells #[.int .u8 q2.l, .int .u8 q2.v, .int .u8 q2.m, .int .u8 q2.s, .int .i8 q2.po, .int .i8 q2.pr, .int .u32 q2.de, .int .u32 q2.di, .int .u32 q2.rs, .int .u64 q2.rf, .int .u64 q2.og, .int .u64 q2.rc, .int .u64 q2.xm] 27))
    case first =>
      by_cases h : a2 = a1
      · have t : (a2 != a1) = false := by simp [h]
        clear h
        go_wp2_with fail
        go_meet
        exact ⟨rfl, rfl⟩
      · have t : (a2 != a1) = true := by simp [h]
        have t2 : (y2 != 7) = false := by
          rcases HY.out with h2 | h2
          · exact absurd h2 h
          · simp [h2]
        clear h
        go_wp2_with fail
        go_meet
        exact ⟨rfl, rfl⟩
    case rest =>
      obtain ⟨rfl, rfl⟩ := hcut
      obtain ⟨W, eW⟩ : ∃ W, W = (w4.alloc (.cells #[.int .u8 q2.l, .int .u8 q2.v, .int .u8 q2.m, .int .u8 q2.s, .int .i8 q2.po, .int .i8 q2.pr, .int .u32 q2.de, .int .u32 q2.di, .int .u32 q2.rs, .int .u64 q2.rf, .int .u64 q2.og, .int .u64 q2.rc, .int .u64 q2.xm] 27)).alloc (.cells #[.int .i64 5, .int .i64 6, .int .i64 8, .int .i64 9, .int .i64 10, .int .i64 11, .int .i64 11] 3) := ⟨_, rfl⟩
      have BW : Below (w.heap.size + 1) (w.alloc (.cells #[.int .u8 P.l, .int .u8 P.v, .int .u8 P.m, .int .u8 P.s, .int .i8 P.po, .int .i8 P.pr, .int .u32 P.de, .int .u32 P.di, .int .u32 P.rs, .int .u64 P.rf, .int .u64 P.og, .int .u64 P.rc, .int .u64 P.xm] 27)) W := by rw [eW]; exact (HB4.out.alloc (by omega) _).alloc (by simp; omega) _
      have hrow : ∀ j, W.cell? ⟨w4.heap.size + 1, j, none⟩ = (#[.int .i64 5, .int .i64 6, .int .i64 8, .int .i64 9, .int .i64 10, .int .i64 11, .int .i64 11] : Array Value)[j]? := by
        intro j
        rw [eW]
        have := heap_alloc_new (w4.alloc (.cells #[.int .u8 q2.l, .int .u8 q2.v, .int .u8 q2.m, .int .u8 q2.s, .int .i8 q2.po, .int .i8 q2.pr, .int .u32 q2.de, .int .u32 q2.di, .int .u32 q2.rs, .int .u64 q2.rf, .int .u64 q2.og, .int .u64 q2.rc, .int .u64 q2.xm] 27)) (.cells #[.int .i64 5, .int .i64 6, .int .i64 8, .int .i64 9, .int .i64 10, .int .i64 11, .int .i64 11] 3)
        rw [show (w4.alloc (.cells #[.int .u8 q2.l, .int .u8 q2.v, .int .u8 q2.m, .int .u8 q2.s, .int .i8 q2.po, .int .i8 q2.pr, .int .u32 q2.de, .int .u32 q2.di, .int .u32 q2.rs, .int .u64 q2.rf, .int .u64 q2.og, .int .u64 q2.rc, .int .u64 q2.xm] 27)).heap.size = w4.heap.size + 1 by simp] at this
        exact cell_of_row _ _ _ _ _ _ this
      have sW : W.heap.size = w4.heap.size + 2 := by rw [eW]; simp
      have HX := Lib.hid (fun i => box_cell BW i)
      have HBW := Lib.hid BW
      have HR := Lib.hid hrow
      have HW := Lib.hid eW
      clear BW hrow eW
      go_wp2
      obtain ⟨rb, erb⟩ : ∃ rb, rb = w4.heap.size + 1 := ⟨_, rfl⟩
      rw [← HW.out, ← erb]
      rw [← erb] at HR
      have hrb : rb < W.heap.size := by omega
      have hwW : w.heap.size < W.heap.size := by omega
      clear erb sW
      go_loopw [77] (fun i wr => ∃ n : Nat, n ≤ 7 ∧ i = .int .i64 n ∧ Below W.heap.size W wr) (fun i _ => 7 - (intOf i).toNat)
      case atStart => exact ⟨0, by omega, rfl, Below.refl _ _⟩
      case round =>
        obtain ⟨n, hn, rfl, hb⟩ := hrel
        obtain rfl | rfl | rfl | rfl | rfl | rfl | rfl | rfl : n = 0 ∨ n = 1 ∨ n = 2 ∨ n = 3 ∨ n = 4 ∨ n = 5 ∨ n = 6 ∨ n = 7 := by omega
        · have m0 : wr.cell? ⟨rb, 0, none⟩ = some (.int .i64 5) := (hb.cell (p := ⟨rb, 0, none⟩) hrb).trans (HR.out 0)
          have n0 : wr.cell? ⟨w.heap.size, 0, none⟩ = some (.int .u8 P.l) := (hb.cell (p := ⟨w.heap.size, 0, none⟩) (by show w.heap.size < _; omega)).trans (HX.out 0); have n1 : wr.cell? ⟨w.heap.size, 1, none⟩ = some (.int .u8 P.v) := (hb.cell (p := ⟨w.heap.size, 1, none⟩) (by show w.heap.size < _; omega)).trans (HX.out 1); have n2 : wr.cell? ⟨w.heap.size, 2, none⟩ = some (.int .u8 P.m) := (hb.cell (p := ⟨w.heap.size, 2, none⟩) (by show w.heap.size < _; omega)).trans (HX.out 2); have n3 : wr.cell? ⟨w.heap.size, 3, none⟩ = some (.int .u8 P.s) := (hb.cell (p := ⟨w.heap.size, 3, none⟩) (by show w.heap.size < _; omega)).trans (HX.out 3); have n4 : wr.cell? ⟨w.heap.size, 4, none⟩ = some (.int .i8 P.po) := (hb.cell (p := ⟨w.heap.size, 4, none⟩) (by show w.heap.size < _; omega)).trans (HX.out 4); have n5 : wr.cell? ⟨w.heap.size, 5, none⟩ = some (.int .i8 P.pr) := (hb.cell (p := ⟨w.heap.size, 5, none⟩) (by show w.heap.size < _; omega)).trans (HX.out 5); have n6 : wr.cell? ⟨w.heap.size, 6, none⟩ = some (.int .u32 P.de) := (hb.cell (p := ⟨w.heap.size, 6, none⟩) (by show w.heap.size < _; omega)).trans (HX.out 6); have n7 : wr.cell? ⟨w.heap.size, 7, none⟩ = some (.int .u32 P.di) := (hb.cell (p := ⟨w.heap.size, 7, none⟩) (by show w.heap.size < _; omega)).trans (HX.out 7); have n8 : wr.cell? ⟨w.heap.size, 8, none⟩ = some (.int .u32 P.rs) := (hb.cell (p := ⟨w.heap.size, 8, none⟩) (by show w.heap.size < _; omega)).trans (HX.out 8); have n9 : wr.cell? ⟨w.heap.size, 9, none⟩ = some (.int .u64 P.rf) := (hb.cell (p := ⟨w.heap.size, 9, none⟩) (by show w.heap.size < _; omega)).trans (HX.out 9); have n10 : wr.cell? ⟨w.heap.size, 10, none⟩ = some (.int .u64 P.og) := (hb.cell (p := ⟨w.heap.size, 10, none⟩) (by show w.heap.size < _; omega)).trans (HX.out 10); have n11 : wr.cell? ⟨w.heap.size, 11, none⟩ = some (.int .u64 P.rc) := (hb.cell (p := ⟨w.heap.size, 11, none⟩) (by show w.heap.size < _; omega)).trans (HX.out 11); have n12 : wr.cell? ⟨w.heap.size, 12, none⟩ = some (.int .u64 P.xm) := (hb.cell (p := ⟨w.heap.size, 12, none⟩) (by show w.heap.size < _; omega)).trans (HX.out 12)
          have HB := Lib.hid hb
          clear hb
          go_wp2_with fail
          refine (KC0.out _).mono ?_
          rintro e w6 ⟨g6, c6, rfl, hg6, hg7, hc6, hc7, hh6, hb6⟩
          have H6 := Lib.hid hh6
          have B6 := Lib.hid hb6
          clear hh6 hb6 hg6 m0 n0 n1 n2 n3 n4 n5 n6 n7 n8 n9 n10 n11 n12
          go_wp2_with fail
          refine (KL0.out g6 c6 _ hc6 hc7 hg7 H6.out).mono ?_
          rintro e w7 ⟨rfl, hb7⟩
          have B7 := Lib.hid hb7
          clear hb7
          go_wp2
          go_roundw
          case rel =>
            have s6 := B6.out.size
            have s0 := HB.out.size
            have s7 := B7.out.size
            simp at s6
            refine ⟨1, by omega, by go_num, ?_⟩
            exact ((HB.out.trans ((below_box (below_succ B6.out)).mono s0)).trans (B7.out.mono (by omega))).alloc (by omega) _
          case measure => simp [intOf]
        · have m0 : wr.cell? ⟨rb, 1, none⟩ = some (.int .i64 6) := (hb.cell (p := ⟨rb, 1, none⟩) hrb).trans (HR.out 1)
          have n0 : wr.cell? ⟨w.heap.size, 0, none⟩ = some (.int .u8 P.l) := (hb.cell (p := ⟨w.heap.size, 0, none⟩) (by show w.heap.size < _; omega)).trans (HX.out 0); have n1 : wr.cell? ⟨w.heap.size, 1, none⟩ = some (.int .u8 P.v) := (hb.cell (p := ⟨w.heap.size, 1, none⟩) (by show w.heap.size < _; omega)).trans (HX.out 1); have n2 : wr.cell? ⟨w.heap.size, 2, none⟩ = some (.int .u8 P.m) := (hb.cell (p := ⟨w.heap.size, 2, none⟩) (by show w.heap.size < _; omega)).trans (HX.out 2); have n3 : wr.cell? ⟨w.heap.size, 3, none⟩ = some (.int .u8 P.s) := (hb.cell (p := ⟨w.heap.size, 3, none⟩) (by show w.heap.size < _; omega)).trans (HX.out 3); have n4 : wr.cell? ⟨w.heap.size, 4, none⟩ = some (.int .i8 P.po) := (hb.cell (p := ⟨w.heap.size, 4, none⟩) (by show w.heap.size < _; omega)).trans (HX.out 4); have n5 : wr.cell? ⟨w.heap.size, 5, none⟩ = some (.int .i8 P.pr) := (hb.cell (p := ⟨w.heap.size, 5, none⟩) (by show w.heap.size < _; omega)).trans (HX.out 5); have n6 : wr.cell? ⟨w.heap.size, 6, none⟩ = some (.int .u32 P.de) := (hb.cell (p := ⟨w.heap.size, 6, none⟩) (by show w.heap.size < _; omega)).trans (HX.out 6); have n7 : wr.cell? ⟨w.heap.size, 7, none⟩ = some (.int .u32 P.di) := (hb.cell (p := ⟨w.heap.size, 7, none⟩) (by show w.heap.size < _; omega)).trans (HX.out 7); have n8 : wr.cell? ⟨w.heap.size, 8, none⟩ = some (.int .u32 P.rs) := (hb.cell (p := ⟨w.heap.size, 8, none⟩) (by show w.heap.size < _; omega)).trans (HX.out 8); have n9 : wr.cell? ⟨w.heap.size, 9, none⟩ = some (.int .u64 P.rf) := (hb.cell (p := ⟨w.heap.size, 9, none⟩) (by show w.heap.size < _; omega)).trans (HX.out 9); have n10 : wr.cell? ⟨w.heap.size, 10, none⟩ = some (.int .u64 P.og) := (hb.cell (p := ⟨w.heap.size, 10, none⟩) (by show w.heap.size < _; omega)).trans (HX.out 10); have n11 : wr.cell? ⟨w.heap.size, 11, none⟩ = some (.int .u64 P.rc) := (hb.cell (p := ⟨w.heap.size, 11, none⟩) (by show w.heap.size < _; omega)).trans (HX.out 11); have n12 : wr.cell? ⟨w.heap.size, 12, none⟩ = some (.int .u64 P.xm) := (hb.cell (p := ⟨w.heap.size, 12, none⟩) (by show w.heap.size < _; omega)).trans (HX.out 12)
          have HB := Lib.hid hb
          clear hb
          go_wp2_with fail
          refine (KC1.out _).mono ?_
          rintro e w6 ⟨g6, c6, rfl, hg6, hg7, hc6, hc7, hh6, hb6⟩
          have H6 := Lib.hid hh6
          have B6 := Lib.hid hb6
          clear hh6 hb6 hg6 m0 n0 n1 n2 n3 n4 n5 n6 n7 n8 n9 n10 n11 n12
          go_wp2_with fail
          refine (KL1.out g6 c6 _ hc6 hc7 hg7 H6.out).mono ?_
          rintro e w7 ⟨rfl, hb7⟩
          have B7 := Lib.hid hb7
          clear hb7
          go_wp2
          go_roundw
          case rel =>
            have s6 := B6.out.size
            have s0 := HB.out.size
            have s7 := B7.out.size
            simp at s6
            refine ⟨2, by omega, by go_num, ?_⟩
            exact ((HB.out.trans ((below_box (below_succ B6.out)).mono s0)).trans (B7.out.mono (by omega))).alloc (by omega) _
          case measure => simp [intOf]
        · have m0 : wr.cell? ⟨rb, 2, none⟩ = some (.int .i64 8) := (hb.cell (p := ⟨rb, 2, none⟩) hrb).trans (HR.out 2)
          have n0 : wr.cell? ⟨w.heap.size, 0, none⟩ = some (.int .u8 P.l) := (hb.cell (p := ⟨w.heap.size, 0, none⟩) (by show w.heap.size < _; omega)).trans (HX.out 0); have n1 : wr.cell? ⟨w.heap.size, 1, none⟩ = some (.int .u8 P.v) := (hb.cell (p := ⟨w.heap.size, 1, none⟩) (by show w.heap.size < _; omega)).trans (HX.out 1); have n2 : wr.cell? ⟨w.heap.size, 2, none⟩ = some (.int .u8 P.m) := (hb.cell (p := ⟨w.heap.size, 2, none⟩) (by show w.heap.size < _; omega)).trans (HX.out 2); have n3 : wr.cell? ⟨w.heap.size, 3, none⟩ = some (.int .u8 P.s) := (hb.cell (p := ⟨w.heap.size, 3, none⟩) (by show w.heap.size < _; omega)).trans (HX.out 3); have n4 : wr.cell? ⟨w.heap.size, 4, none⟩ = some (.int .i8 P.po) := (hb.cell (p := ⟨w.heap.size, 4, none⟩) (by show w.heap.size < _; omega)).trans (HX.out 4); have n5 : wr.cell? ⟨w.heap.size, 5, none⟩ = some (.int .i8 P.pr) := (hb.cell (p := ⟨w.heap.size, 5, none⟩) (by show w.heap.size < _; omega)).trans (HX.out 5); have n6 : wr.cell? ⟨w.heap.size, 6, none⟩ = some (.int .u32 P.de) := (hb.cell (p := ⟨w.heap.size, 6, none⟩) (by show w.heap.size < _; omega)).trans (HX.out 6); have n7 : wr.cell? ⟨w.heap.size, 7, none⟩ = some (.int .u32 P.di) := (hb.cell (p := ⟨w.heap.size, 7, none⟩) (by show w.heap.size < _; omega)).trans (HX.out 7); have n8 : wr.cell? ⟨w.heap.size, 8, none⟩ = some (.int .u32 P.rs) := (hb.cell (p := ⟨w.heap.size, 8, none⟩) (by show w.heap.size < _; omega)).trans (HX.out 8); have n9 : wr.cell? ⟨w.heap.size, 9, none⟩ = some (.int .u64 P.rf) := (hb.cell (p := ⟨w.heap.size, 9, none⟩) (by show w.heap.size < _; omega)).trans (HX.out 9); have n10 : wr.cell? ⟨w.heap.size, 10, none⟩ = some (.int .u64 P.og) := (hb.cell (p := ⟨w.heap.size, 10, none⟩) (by show w.heap.size < _; omega)).trans (HX.out 10); have n11 : wr.cell? ⟨w.heap.size, 11, none⟩ = some (.int .u64 P.rc) := (hb.cell (p := ⟨w.heap.size, 11, none⟩) (by show w.heap.size < _; omega)).trans (HX.out 11); have n12 : wr.cell? ⟨w.heap.size, 12, none⟩ = some (.int .u64 P.xm) := (hb.cell (p := ⟨w.heap.size, 12, none⟩) (by show w.heap.size < _; omega)).trans (HX.out 12)
          have HB := Lib.hid hb
          clear hb
          go_wp2_with fail
          refine (KC2.out _).mono ?_
          rintro e w6 ⟨g6, c6, rfl, hg6, hg7, hc6, hc7, hh6, hb6⟩
          have H6 := Lib.hid hh6
          have B6 := Lib.hid hb6
          clear hh6 hb6 hg6 m0 n0 n1 n2 n3 n4 n5 n6 n7 n8 n9 n10 n11 n12
          go_wp2_with fail
          refine (KL2.out g6 c6 _ hc6 hc7 hg7 H6.out).mono ?_
          rintro e w7 ⟨rfl, hb7⟩
          have B7 := Lib.hid hb7
          clear hb7
          go_wp2
          go_roundw
          case rel =>
            have s6 := B6.out.size
            have s0 := HB.out.size
            have s7 := B7.out.size
            simp at s6
            refine ⟨3, by omega, by go_num, ?_⟩
            exact ((HB.out.trans ((below_box (below_succ B6.out)).mono s0)).trans (B7.out.mono (by omega))).alloc (by omega) _
          case measure => simp [intOf]
        · have m0 : wr.cell? ⟨rb, 3, none⟩ = some (.int .i64 9) := (hb.cell (p := ⟨rb, 3, none⟩) hrb).trans (HR.out 3)
          have n0 : wr.cell? ⟨w.heap.size, 0, none⟩ = some (.int .u8 P.l) := (hb.cell (p := ⟨w.heap.size, 0, none⟩) (by show w.heap.size < _; omega)).trans (HX.out 0); have n1 : wr.cell? ⟨w.heap.size, 1, none⟩ = some (.int .u8 P.v) := (hb.cell (p := ⟨w.heap.size, 1, none⟩) (by show w.heap.size < _; omega)).trans (HX.out 1); have n2 : wr.cell? ⟨w.heap.size, 2, none⟩ = some (.int .u8 P.m) := (hb.cell (p := ⟨w.heap.size, 2, none⟩) (by show w.heap.size < _; omega)).trans (HX.out 2); have n3 : wr.cell? ⟨w.heap.size, 3, none⟩ = some (.int .u8 P.s) := (hb.cell (p := ⟨w.heap.size, 3, none⟩) (by show w.heap.size < _; omega)).trans (HX.out 3); have n4 : wr.cell? ⟨w.heap.size, 4, none⟩ = some (.int .i8 P.po) := (hb.cell (p := ⟨w.heap.size, 4, none⟩) (by show w.heap.size < _; omega)).trans (HX.out 4); have n5 : wr.cell? ⟨w.heap.size, 5, none⟩ = some (.int .i8 P.pr) := (hb.cell (p := ⟨w.heap.size, 5, none⟩) (by show w.heap.size < _; omega)).trans (HX.out 5); have n6 : wr.cell? ⟨w.heap.size, 6, none⟩ = some (.int .u32 P.de) := (hb.cell (p := ⟨w.heap.size, 6, none⟩) (by show w.heap.size < _; omega)).trans (HX.out 6); have n7 : wr.cell? ⟨w.heap.size, 7, none⟩ = some (.int .u32 P.di) := (hb.cell (p := ⟨w.heap.size, 7, none⟩) (by show w.heap.size < _; omega)).trans (HX.out 7); have n8 : wr.cell? ⟨w.heap.size, 8, none⟩ = some (.int .u32 P.rs) := (hb.cell (p := ⟨w.heap.size, 8, none⟩) (by show w.heap.size < _; omega)).trans (HX.out 8); have n9 : wr.cell? ⟨w.heap.size, 9, none⟩ = some (.int .u64 P.rf) := (hb.cell (p := ⟨w.heap.size, 9, none⟩) (by show w.heap.size < _; omega)).trans (HX.out 9); have n10 : wr.cell? ⟨w.heap.size, 10, none⟩ = some (.int .u64 P.og) := (hb.cell (p := ⟨w.heap.size, 10, none⟩) (by show w.heap.size < _; omega)).trans (HX.out 10); have n11 : wr.cell? ⟨w.heap.size, 11, none⟩ = some (.int .u64 P.rc) := (hb.cell (p := ⟨w.heap.size, 11, none⟩) (by show w.heap.size < _; omega)).trans (HX.out 11); have n12 : wr.cell? ⟨w.heap.size, 12, none⟩ = some (.int .u64 P.xm) := (hb.cell (p := ⟨w.heap.size, 12, none⟩) (by show w.heap.size < _; omega)).trans (HX.out 12)
          have HB := Lib.hid hb
          clear hb
          go_wp2_with fail
          refine (KC3.out _).mono ?_
          rintro e w6 ⟨g6, c6, rfl, hg6, hg7, hc6, hc7, hh6, hb6⟩
          have H6 := Lib.hid hh6
          have B6 := Lib.hid hb6
          clear hh6 hb6 hg6 m0 n0 n1 n2 n3 n4 n5 n6 n7 n8 n9 n10 n11 n12
          go_wp2_with fail
          refine (KL3.out g6 c6 _ hc6 hc7 hg7 H6.out).mono ?_
          rintro e w7 ⟨rfl, hb7⟩
          have B7 := Lib.hid hb7
          clear hb7
          go_wp2
          go_roundw
          case rel =>
            have s6 := B6.out.size
            have s0 := HB.out.size
            have s7 := B7.out.size
            simp at s6
            refine ⟨4, by omega, by go_num, ?_⟩
            exact ((HB.out.trans ((below_box (below_succ B6.out)).mono s0)).trans (B7.out.mono (by omega))).alloc (by omega) _
          case measure => simp [intOf]
        · have m0 : wr.cell? ⟨rb, 4, none⟩ = some (.int .i64 10) := (hb.cell (p := ⟨rb, 4, none⟩) hrb).trans (HR.out 4)
          have n0 : wr.cell? ⟨w.heap.size, 0, none⟩ = some (.int .u8 P.l) := (hb.cell (p := ⟨w.heap.size, 0, none⟩) (by show w.heap.size < _; omega)).trans (HX.out 0); have n1 : wr.cell? ⟨w.heap.size, 1, none⟩ = some (.int .u8 P.v) := (hb.cell (p := ⟨w.heap.size, 1, none⟩) (by show w.heap.size < _; omega)).trans (HX.out 1); have n2 : wr.cell? ⟨w.heap.size, 2, none⟩ = some (.int .u8 P.m) := (hb.cell (p := ⟨w.heap.size, 2, none⟩) (by show w.heap.size < _; omega)).trans (HX.out 2); have n3 : wr.cell? ⟨w.heap.size, 3, none⟩ = some (.int .u8 P.s) := (hb.cell (p := ⟨w.heap.size, 3, none⟩) (by show w.heap.size < _; omega)).trans (HX.out 3); have n4 : wr.cell? ⟨w.heap.size, 4, none⟩ = some (.int .i8 P.po) := (hb.cell (p := ⟨w.heap.size, 4, none⟩) (by show w.heap.size < _; omega)).trans (HX.out 4); have n5 : wr.cell? ⟨w.heap.size, 5, none⟩ = some (.int .i8 P.pr) := (hb.cell (p := ⟨w.heap.size, 5, none⟩) (by show w.heap.size < _; omega)).trans (HX.out 5); have n6 : wr.cell? ⟨w.heap.size, 6, none⟩ = some (.int .u32 P.de) := (hb.cell (p := ⟨w.heap.size, 6, none⟩) (by show w.heap.size < _; omega)).trans (HX.out 6); have n7 : wr.cell? ⟨w.heap.size, 7, none⟩ = some (.int .u32 P.di) := (hb.cell (p := ⟨w.heap.size, 7, none⟩) (by show w.heap.size < _; omega)).trans (HX.out 7); have n8 : wr.cell? ⟨w.heap.size, 8, none⟩ = some (.int .u32 P.rs) := (hb.cell (p := ⟨w.heap.size, 8, none⟩) (by show w.heap.size < _; omega)).trans (HX.out 8); have n9 : wr.cell? ⟨w.heap.size, 9, none⟩ = some (.int .u64 P.rf) := (hb.cell (p := ⟨w.heap.size, 9, none⟩) (by show w.heap.size < _; omega)).trans (HX.out 9); have n10 : wr.cell? ⟨w.heap.size, 10, none⟩ = some (.int .u64 P.og) := (hb.cell (p := ⟨w.heap.size, 10, none⟩) (by show w.heap.size < _; omega)).trans (HX.out 10); have n11 : wr.cell? ⟨w.heap.size, 11, none⟩ = some (.int .u64 P.rc) := (hb.cell (p := ⟨w.heap.size, 11, none⟩) (by show w.heap.size < _; omega)).trans (HX.out 11); have n12 : wr.cell? ⟨w.heap.size, 12, none⟩ = some (.int .u64 P.xm) := (hb.cell (p := ⟨w.heap.size, 12, none⟩) (by show w.heap.size < _; omega)).trans (HX.out 12)
          have HB := Lib.hid hb
          clear hb
          go_wp2_with fail
          refine (KC4.out _).mono ?_
          rintro e w6 ⟨g6, c6, rfl, hg6, hg7, hc6, hc7, hh6, hb6⟩
          have H6 := Lib.hid hh6
          have B6 := Lib.hid hb6
          clear hh6 hb6 hg6 m0 n0 n1 n2 n3 n4 n5 n6 n7 n8 n9 n10 n11 n12
          go_wp2_with fail
          refine (KL4.out g6 c6 _ hc6 hc7 hg7 H6.out).mono ?_
          rintro e w7 ⟨rfl, hb7⟩
          have B7 := Lib.hid hb7
          clear hb7
          go_wp2
          go_roundw
          case rel =>
            have s6 := B6.out.size
            have s0 := HB.out.size
            have s7 := B7.out.size
            simp at s6
            refine ⟨5, by omega, by go_num, ?_⟩
            exact ((HB.out.trans ((below_box (below_succ B6.out)).mono s0)).trans (B7.out.mono (by omega))).alloc (by omega) _
          case measure => simp [intOf]
        · have m0 : wr.cell? ⟨rb, 5, none⟩ = some (.int .i64 11) := (hb.cell (p := ⟨rb, 5, none⟩) hrb).trans (HR.out 5)
          have n0 : wr.cell? ⟨w.heap.size, 0, none⟩ = some (.int .u8 P.l) := (hb.cell (p := ⟨w.heap.size, 0, none⟩) (by show w.heap.size < _; omega)).trans (HX.out 0); have n1 : wr.cell? ⟨w.heap.size, 1, none⟩ = some (.int .u8 P.v) := (hb.cell (p := ⟨w.heap.size, 1, none⟩) (by show w.heap.size < _; omega)).trans (HX.out 1); have n2 : wr.cell? ⟨w.heap.size, 2, none⟩ = some (.int .u8 P.m) := (hb.cell (p := ⟨w.heap.size, 2, none⟩) (by show w.heap.size < _; omega)).trans (HX.out 2); have n3 : wr.cell? ⟨w.heap.size, 3, none⟩ = some (.int .u8 P.s) := (hb.cell (p := ⟨w.heap.size, 3, none⟩) (by show w.heap.size < _; omega)).trans (HX.out 3); have n4 : wr.cell? ⟨w.heap.size, 4, none⟩ = some (.int .i8 P.po) := (hb.cell (p := ⟨w.heap.size, 4, none⟩) (by show w.heap.size < _; omega)).trans (HX.out 4); have n5 : wr.cell? ⟨w.heap.size, 5, none⟩ = some (.int .i8 P.pr) := (hb.cell (p := ⟨w.heap.size, 5, none⟩) (by show w.heap.size < _; omega)).trans (HX.out 5); have n6 : wr.cell? ⟨w.heap.size, 6, none⟩ = some (.int .u32 P.de) := (hb.cell (p := ⟨w.heap.size, 6, none⟩) (by show w.heap.size < _; omega)).trans (HX.out 6); have n7 : wr.cell? ⟨w.heap.size, 7, none⟩ = some (.int .u32 P.di) := (hb.cell (p := ⟨w.heap.size, 7, none⟩) (by show w.heap.size < _; omega)).trans (HX.out 7); have n8 : wr.cell? ⟨w.heap.size, 8, none⟩ = some (.int .u32 P.rs) := (hb.cell (p := ⟨w.heap.size, 8, none⟩) (by show w.heap.size < _; omega)).trans (HX.out 8); have n9 : wr.cell? ⟨w.heap.size, 9, none⟩ = some (.int .u64 P.rf) := (hb.cell (p := ⟨w.heap.size, 9, none⟩) (by show w.heap.size < _; omega)).trans (HX.out 9); have n10 : wr.cell? ⟨w.heap.size, 10, none⟩ = some (.int .u64 P.og) := (hb.cell (p := ⟨w.heap.size, 10, none⟩) (by show w.heap.size < _; omega)).trans (HX.out 10); have n11 : wr.cell? ⟨w.heap.size, 11, none⟩ = some (.int .u64 P.rc) := (hb.cell (p := ⟨w.heap.size, 11, none⟩) (by show w.heap.size < _; omega)).trans (HX.out 11); have n12 : wr.cell? ⟨w.heap.size, 12, none⟩ = some (.int .u64 P.xm) := (hb.cell (p := ⟨w.heap.size, 12, none⟩) (by show w.heap.size < _; omega)).trans (HX.out 12)
          have HB := Lib.hid hb
          clear hb
          go_wp2_with fail
          refine (KC5.out _).mono ?_
          rintro e w6 ⟨g6, c6, rfl, hg6, hg7, hc6, hc7, hh6, hb6⟩
          have H6 := Lib.hid hh6
          have B6 := Lib.hid hb6
          clear hh6 hb6 hg6 m0 n0 n1 n2 n3 n4 n5 n6 n7 n8 n9 n10 n11 n12
          go_wp2_with fail
          refine (KL5.out g6 c6 _ hc6 hc7 hg7 H6.out).mono ?_
          rintro e w7 ⟨rfl, hb7⟩
          have B7 := Lib.hid hb7
          clear hb7
          go_wp2
          go_roundw
          case rel =>
            have s6 := B6.out.size
            have s0 := HB.out.size
            have s7 := B7.out.size
            simp at s6
            refine ⟨6, by omega, by go_num, ?_⟩
            exact ((HB.out.trans ((below_box (below_succ B6.out)).mono s0)).trans (B7.out.mono (by omega))).alloc (by omega) _
          case measure => simp [intOf]
        · have m0 : wr.cell? ⟨rb, 6, none⟩ = some (.int .i64 11) := (hb.cell (p := ⟨rb, 6, none⟩) hrb).trans (HR.out 6)
          have n0 : wr.cell? ⟨w.heap.size, 0, none⟩ = some (.int .u8 P.l) := (hb.cell (p := ⟨w.heap.size, 0, none⟩) (by show w.heap.size < _; omega)).trans (HX.out 0); have n1 : wr.cell? ⟨w.heap.size, 1, none⟩ = some (.int .u8 P.v) := (hb.cell (p := ⟨w.heap.size, 1, none⟩) (by show w.heap.size < _; omega)).trans (HX.out 1); have n2 : wr.cell? ⟨w.heap.size, 2, none⟩ = some (.int .u8 P.m) := (hb.cell (p := ⟨w.heap.size, 2, none⟩) (by show w.heap.size < _; omega)).trans (HX.out 2); have n3 : wr.cell? ⟨w.heap.size, 3, none⟩ = some (.int .u8 P.s) := (hb.cell (p := ⟨w.heap.size, 3, none⟩) (by show w.heap.size < _; omega)).trans (HX.out 3); have n4 : wr.cell? ⟨w.heap.size, 4, none⟩ = some (.int .i8 P.po) := (hb.cell (p := ⟨w.heap.size, 4, none⟩) (by show w.heap.size < _; omega)).trans (HX.out 4); have n5 : wr.cell? ⟨w.heap.size, 5, none⟩ = some (.int .i8 P.pr) := (hb.cell (p := ⟨w.heap.size, 5, none⟩) (by show w.heap.size < _; omega)).trans (HX.out 5); have n6 : wr.cell? ⟨w.heap.size, 6, none⟩ = some (.int .u32 P.de) := (hb.cell (p := ⟨w.heap.size, 6, none⟩) (by show w.heap.size < _; omega)).trans (HX.out 6); have n7 : wr.cell? ⟨w.heap.size, 7, none⟩ = some (.int .u32 P.di) := (hb.cell (p := ⟨w.heap.size, 7, none⟩) (by show w.heap.size < _; omega)).trans (HX.out 7); have n8 : wr.cell? ⟨w.heap.size, 8, none⟩ = some (.int .u32 P.rs) := (hb.cell (p := ⟨w.heap.size, 8, none⟩) (by show w.heap.size < _; omega)).trans (HX.out 8); have n9 : wr.cell? ⟨w.heap.size, 9, none⟩ = some (.int .u64 P.rf) := (hb.cell (p := ⟨w.heap.size, 9, none⟩) (by show w.heap.size < _; omega)).trans (HX.out 9); have n10 : wr.cell? ⟨w.heap.size, 10, none⟩ = some (.int .u64 P.og) := (hb.cell (p := ⟨w.heap.size, 10, none⟩) (by show w.heap.size < _; omega)).trans (HX.out 10); have n11 : wr.cell? ⟨w.heap.size, 11, none⟩ = some (.int .u64 P.rc) := (hb.cell (p := ⟨w.heap.size, 11, none⟩) (by show w.heap.size < _; omega)).trans (HX.out 11); have n12 : wr.cell? ⟨w.heap.size, 12, none⟩ = some (.int .u64 P.xm) := (hb.cell (p := ⟨w.heap.size, 12, none⟩) (by show w.heap.size < _; omega)).trans (HX.out 12)
          have HB := Lib.hid hb
          clear hb
          go_wp2_with fail
          refine (KC6.out _).mono ?_
          rintro e w6 ⟨g6, c6, rfl, hg6, hg7, hc6, hc7, hh6, hb6⟩
          have H6 := Lib.hid hh6
          have B6 := Lib.hid hb6
          clear hh6 hb6 hg6 m0 n0 n1 n2 n3 n4 n5 n6 n7 n8 n9 n10 n11 n12
          go_wp2_with fail
          refine (KL6.out g6 c6 _ hc6 hc7 hg7 H6.out).mono ?_
          rintro e w7 ⟨rfl, hb7⟩
          have B7 := Lib.hid hb7
          clear hb7
          go_wp2
          go_roundw
          case rel =>
            have s6 := B6.out.size
            have s0 := HB.out.size
            have s7 := B7.out.size
            simp at s6
            refine ⟨7, by omega, by go_num, ?_⟩
            exact ((HB.out.trans ((below_box (below_succ B6.out)).mono s0)).trans (B7.out.mono (by omega))).alloc (by omega) _
          case measure => simp [intOf]
        · have HB := Lib.hid hb
          clear hb
          go_wp2_with fail
          refine (KA.out _).mono ?_
          rintro e w8 ⟨rfl, hb8⟩
          go_wp2
          go_ret
          have b1 := HBW.out.size
          have b2 := HB.out.size
          simp at b1
          exact ⟨rfl, (below_box HBW.out).trans ((HB.out.mono (by omega)).trans (hb8.mono (by omega)))⟩

set_option maxRecDepth 100000 in
theorem lifted (os : Os) (started : os.Started) (H : Type) (enc : TypeId × Value → H) :
    ReturnsInHanded {} Try.checked os 5 .any (Rows.saneOthersSpec.pre6 enc Try.prog Try.f5 Rows.saneOthersRow.domain false) (Rows.saneOthersSpec.post enc Try.prog Try.f5 false true false false) := by
  refine returnsInHanded_of_change (C := Try.checked) own started (by kernel_rfl) Try.func5
    (ChangeSpec.witness6 (enc := enc) (C := Try.checked) false ⟨#[], #[.agg #[.int .u8 0, .int .u8 0, .int .u8 0, .int .u8 0, .int .i8 0, .int .i8 0, .int .u32 0, .int .u32 0, .int .u32 0, .int .u64 0, .int .u64 0, .int .u64 0, .int .u64 0], .int .u64 0, .int .u64 0], []⟩ 8 (by kernel_rfl) (by kernel_rfl) (by kernel_rfl) (by kernel_rfl)) ?_
  intro W base args ds gs before hval0 hW hcnd _
  have hval : ∀ (j : Nat) t v, Try.f5.params[j]? = some t → args[j]? = some v → Value.okWide Try.prog W .any base t v := hval0
  have hW' := hW
  obtain ⟨p, q, hA0, hV, rfl, hfz, hnd⟩ := hW
  have hA : DataW.TrodAll enc Try.prog W 0 (fun _ => true) true Try.f5.params.toList args.toList ds p := hA0
  rw [Try.params5] at hA hval
  obtain ⟨v0, vs0, d0, ds0, p0, q0, hargs, rfl, rfl, h0, r0⟩ := trodAll_cons hA
  obtain ⟨v1, vs1, d1, ds1, p1, q1, rfl, rfl, rfl, h1, r1⟩ := trodAll_cons r0
  obtain ⟨v2, vs2, d2, ds2, p2, q2, rfl, rfl, rfl, h2, r2⟩ := trodAll_cons r1
  obtain ⟨rfl, rfl, rfl⟩ := trodAll_nil r2
  obtain rfl : args = #[v0, v1, v2] := by cases args; simp_all
  obtain ⟨rfl, rfl⟩ := trodVars_none hV
  have k0 := h0
  have lt0 : ∀ x ∈ p0, x.block < W.heap.size := by obtain ⟨m, hm⟩ := k0; exact DataW.trod_lt m _ _ _ hm
  obtain ⟨x0_0, x0_1, x0_2, x0_3, x0_4, x0_5, x0_6, x0_7, x0_8, x0_9, x0_10, x0_11, x0_12, rfl, w0_0, w0_1, w0_2, w0_3, w0_4, w0_5, w0_6, w0_7, w0_8, w0_9, w0_10, w0_11, w0_12⟩ := open_pk (hval 0 27 v0 rfl rfl) h0
  have hp0 : (Pk.mk x0_0 x0_1 x0_2 x0_3 x0_4 x0_5 x0_6 x0_7 x0_8 x0_9 x0_10 x0_11 x0_12).In := ⟨(bounds_u8 w0_0).1, (bounds_u8 w0_0).2, (bounds_u8 w0_1).1, (bounds_u8 w0_1).2, (bounds_u8 w0_2).1, (bounds_u8 w0_2).2, (bounds_u8 w0_3).1, (bounds_u8 w0_3).2, (bounds_i8 w0_4).1, (bounds_i8 w0_4).2, (bounds_i8 w0_5).1, (bounds_i8 w0_5).2, (bounds_u32 w0_6).1, (bounds_u32 w0_6).2, (bounds_u32 w0_7).1, (bounds_u32 w0_7).2, (bounds_u32 w0_8).1, (bounds_u32 w0_8).2, (bounds_u64 w0_9).1, (bounds_u64 w0_9).2, (bounds_u64 w0_10).1, (bounds_u64 w0_10).2, (bounds_u64 w0_11).1, (bounds_u64 w0_11).2, (bounds_u64 w0_12).1, (bounds_u64 w0_12).2⟩
  obtain ⟨a1, rfl, rfl, rfl, w1⟩ := open_int Try.underlying23 (hval 1 23 v1 rfl rfl) h1
  obtain ⟨a2, rfl, rfl, rfl, w2⟩ := open_int Try.underlying23 (hval 2 23 v2 rfl rfl) h2
  clear hA0 hval0
  refine (walk ⟨x0_0, x0_1, x0_2, x0_3, x0_4, x0_5, x0_6, x0_7, x0_8, x0_9, x0_10, x0_11, x0_12⟩ a1 a2 W hp0 w1 w2).mono fun e W' ⟨he, bel⟩ => ?_
  subst he
  exact ⟨_, rfl, _, _, _, [], _, [], hW', trodAll_mk1 (shut_bool Try.underlying4 _), (trodAll_cons_mk (Below.trod laidOut (by kernel_rfl) (of_decide_eq_true (by kernel_rfl)) k0 bel lt0) (trodAll_cons_mk (shut_int Try.underlying23 w1) (trodAll_cons_mk (shut_int Try.underlying23 w2) trodAll_mk0))), rfl, bel.frame _, fun h => by cases h⟩

theorem over : Rows.saneOthersRow.holds Try.pinned (OpenSpec.ofChange Rows.saneOthersSpec) :=
  OpenClaim.holds_of_wide 5 Try.f5 rfl rfl rfl rfl rfl rfl rfl ⟨rfl, rfl, rfl, rfl, rfl⟩ rfl rfl rfl rfl rfl (by kernel_rfl) Try.func5 (by kernel_rfl)
    (of_decide_eq_true (by kernel_rfl)) (by unfold Func.isWrapper; first | (rw [if_pos (by decide +kernel)]; kernel_rfl) | (rw [if_neg (by decide +kernel)]; exact ⟨rfl, rfl⟩))
    (fun os started H enc _ => lifted os started H enc)

theorem proved : Rows.SaneOthersSaid :=
  over
#print axioms proved
end Go.Proofs.Ytojaliclbfijaaa.saneOthers
