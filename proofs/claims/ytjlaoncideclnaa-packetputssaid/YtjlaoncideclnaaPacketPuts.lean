/- For every packet the statement PacketPuts returns true: its bytes are the document's, or why there are none. No condition. -/
import Derived.Test.YtjlaoncideclnaaRows
import Derived.Test.YtjlaoncideclnaaBack
import Derived.Test.YtjlaoncideclnaaOpen
import Derived.WalkKit
import Derived.ProofKit
import Derived.OpenShut
import Derived.ShutString
import Derived.ChangeOld
import Derived.Below
import Derived.Deep.RegionWith
import Derived.Deep.DrawnRows
namespace Go.Proofs.Ytjlaoncideclnaa.packetPuts
open Go.ChangeShapes Go.WideShapes Go.ChangeAt Go.RowKit
set_option linter.unusedVariables false

theorem own : ownKnob Try.prog.godebug = none := by kernel_rfl
theorem laidOut : laidOutB Try.prog = true := by kernel_rfl

set_option maxHeartbeats 1000000 in
theorem walk (p0 : Pk) (w : World) (hp0 : p0.In) :
    Calls Try.prog 3 #[.agg #[.int .u8 p0.l, .int .u8 p0.v, .int .u8 p0.m, .int .u8 p0.s, .int .i8 p0.po, .int .i8 p0.pr, .int .u32 p0.de, .int .u32 p0.di, .int .u32 p0.rs, .int .u64 p0.rf, .int .u64 p0.og, .int .u64 p0.rc, .int .u64 p0.xm]] w fun e w' => e = .returned (.bool true) ∧ Below w.heap.size w w' := by
  have KA := Lib.hid alive_any
  by_cases hf : p0.Fits
  · have KP := Lib.hid (fun w => put_ok p0 w hp0 hf)
    have KC := Lib.hid (fun w => rcheck_ok p0 w hp0 hf)
    have KD := Lib.hid (fun w => check_ok p0 w hp0 hf)
    have KR := Lib.hid (fun w => rput_any p0 w hp0 hf)
    clear hp0 hf
    go_enter Try.func3, Try.ntmps3
    go_wp2_with fail
    refine (KP.out _).mono ?_
    rintro e w1 ⟨g, c, rfl, hg1, hg2, hc1, hc2, hh, hb1⟩
    have B1 := below_succ hb1
    have H1 := Lib.hid hh
    clear hh hb1 KP
    have c0 : w1.cell? ⟨w.heap.size, 0, none⟩ = some (.int .u8 p0.l) := box_cell B1 0; have c1 : w1.cell? ⟨w.heap.size, 1, none⟩ = some (.int .u8 p0.v) := box_cell B1 1; have c2 : w1.cell? ⟨w.heap.size, 2, none⟩ = some (.int .u8 p0.m) := box_cell B1 2; have c3 : w1.cell? ⟨w.heap.size, 3, none⟩ = some (.int .u8 p0.s) := box_cell B1 3; have c4 : w1.cell? ⟨w.heap.size, 4, none⟩ = some (.int .i8 p0.po) := box_cell B1 4; have c5 : w1.cell? ⟨w.heap.size, 5, none⟩ = some (.int .i8 p0.pr) := box_cell B1 5; have c6 : w1.cell? ⟨w.heap.size, 6, none⟩ = some (.int .u32 p0.de) := box_cell B1 6; have c7 : w1.cell? ⟨w.heap.size, 7, none⟩ = some (.int .u32 p0.di) := box_cell B1 7; have c8 : w1.cell? ⟨w.heap.size, 8, none⟩ = some (.int .u32 p0.rs) := box_cell B1 8; have c9 : w1.cell? ⟨w.heap.size, 9, none⟩ = some (.int .u64 p0.rf) := box_cell B1 9; have c10 : w1.cell? ⟨w.heap.size, 10, none⟩ = some (.int .u64 p0.og) := box_cell B1 10; have c11 : w1.cell? ⟨w.heap.size, 11, none⟩ = some (.int .u64 p0.rc) := box_cell B1 11; have c12 : w1.cell? ⟨w.heap.size, 12, none⟩ = some (.int .u64 p0.xm) := box_cell B1 12
    go_wp2_with fail
    refine (KC.out _).mono ?_
    rintro e w2 ⟨rfl, hb2⟩
    have B2 := B1.trans (hb2.mono (by have := B1.size; simp at this; omega))
    have H2 := Lib.hid (has_below H1.out hg2 hb2)
    have hg3 : g < w2.heap.size := Nat.lt_of_lt_of_le hg2 hb2.size
    clear hb2 KC c0 c1 c2 c3 c4 c5 c6 c7 c8 c9 c10 c11 c12
    have c0 : w2.cell? ⟨w.heap.size, 0, none⟩ = some (.int .u8 p0.l) := box_cell B2 0; have c1 : w2.cell? ⟨w.heap.size, 1, none⟩ = some (.int .u8 p0.v) := box_cell B2 1; have c2 : w2.cell? ⟨w.heap.size, 2, none⟩ = some (.int .u8 p0.m) := box_cell B2 2; have c3 : w2.cell? ⟨w.heap.size, 3, none⟩ = some (.int .u8 p0.s) := box_cell B2 3; have c4 : w2.cell? ⟨w.heap.size, 4, none⟩ = some (.int .i8 p0.po) := box_cell B2 4; have c5 : w2.cell? ⟨w.heap.size, 5, none⟩ = some (.int .i8 p0.pr) := box_cell B2 5; have c6 : w2.cell? ⟨w.heap.size, 6, none⟩ = some (.int .u32 p0.de) := box_cell B2 6; have c7 : w2.cell? ⟨w.heap.size, 7, none⟩ = some (.int .u32 p0.di) := box_cell B2 7; have c8 : w2.cell? ⟨w.heap.size, 8, none⟩ = some (.int .u32 p0.rs) := box_cell B2 8; have c9 : w2.cell? ⟨w.heap.size, 9, none⟩ = some (.int .u64 p0.rf) := box_cell B2 9; have c10 : w2.cell? ⟨w.heap.size, 10, none⟩ = some (.int .u64 p0.og) := box_cell B2 10; have c11 : w2.cell? ⟨w.heap.size, 11, none⟩ = some (.int .u64 p0.rc) := box_cell B2 11; have c12 : w2.cell? ⟨w.heap.size, 12, none⟩ = some (.int .u64 p0.xm) := box_cell B2 12
    go_wp2_with fail
    refine (KD.out _).mono ?_
    rintro e w3 ⟨rfl, hb3⟩
    have B3 := B2.trans (hb3.mono (by have := B2.size; simp at this; omega))
    have H3 := Lib.hid (has_below H2.out hg3 hb3)
    have hg4 : g < w3.heap.size := Nat.lt_of_lt_of_le hg3 hb3.size
    have hs3 : w.heap.size + 1 ≤ w3.heap.size := by have := B3.size; simp at this; omega
    clear hb3 KD c0 c1 c2 c3 c4 c5 c6 c7 c8 c9 c10 c11 c12 B1 B2
    go_wp2_with fail
    go_region_with (first | (go_at_call 12; refine (KA.out _).mono ?_; rintro e w4 ⟨rfl, hb4⟩; have hb4' := below_of_drew hb4; have B4 := B3.trans (hb4'.mono hs3); have H4 := Lib.hid (has_below H3.out hg4 hb4'); have cv4 := run_string (c := c) 48 (Pk.bytes_length p0) H4.out; have hg5 : g < w4.heap.size := Nat.lt_of_lt_of_le hg4 hb4'.size; have hs4 : w.heap.size + 1 ≤ w4.heap.size := Nat.le_trans hs3 hb4'.size; clear hb4 hb4'; have c0 : w4.cell? ⟨w.heap.size, 0, none⟩ = some (.int .u8 p0.l) := box_cell B4 0; have c1 : w4.cell? ⟨w.heap.size, 1, none⟩ = some (.int .u8 p0.v) := box_cell B4 1; have c2 : w4.cell? ⟨w.heap.size, 2, none⟩ = some (.int .u8 p0.m) := box_cell B4 2; have c3 : w4.cell? ⟨w.heap.size, 3, none⟩ = some (.int .u8 p0.s) := box_cell B4 3; have c4 : w4.cell? ⟨w.heap.size, 4, none⟩ = some (.int .i8 p0.po) := box_cell B4 4; have c5 : w4.cell? ⟨w.heap.size, 5, none⟩ = some (.int .i8 p0.pr) := box_cell B4 5; have c6 : w4.cell? ⟨w.heap.size, 6, none⟩ = some (.int .u32 p0.de) := box_cell B4 6; have c7 : w4.cell? ⟨w.heap.size, 7, none⟩ = some (.int .u32 p0.di) := box_cell B4 7; have c8 : w4.cell? ⟨w.heap.size, 8, none⟩ = some (.int .u32 p0.rs) := box_cell B4 8; have c9 : w4.cell? ⟨w.heap.size, 9, none⟩ = some (.int .u64 p0.rf) := box_cell B4 9; have c10 : w4.cell? ⟨w.heap.size, 10, none⟩ = some (.int .u64 p0.og) := box_cell B4 10; have c11 : w4.cell? ⟨w.heap.size, 11, none⟩ = some (.int .u64 p0.rc) := box_cell B4 11; have c12 : w4.cell? ⟨w.heap.size, 12, none⟩ = some (.int .u64 p0.xm) := box_cell B4 12) | (go_at_call 13; refine (KR.out _).mono ?_; rintro e w5 ⟨g2, c2', rfl, hg6, hg7, hc3, hc4, hh2, hb5⟩; have B5 := B4.trans (hb5.mono hs4); have H5 := Lib.hid (has_below H4.out hg5 hb5); have cv5 := run_string (c := c) 48 (Pk.bytes_length p0) H5.out; have cv6 := run_string (c := c2') 48 (Pk.bytes_length p0) hh2; clear hh2))
    all_goals
      go_wp2
      go_ret
      exact ⟨rfl, below_box B5⟩
  · have KP := Lib.hid (fun w => put_bad p0 w hp0 hf)
    have KC := Lib.hid (fun w => rcheck_bad p0 w hp0 hf)
    have KD := Lib.hid (fun w => check_bad p0 w hp0 hf)
    clear hp0 hf
    go_enter Try.func3, Try.ntmps3
    go_wp2_with fail
    refine (KP.out _).mono ?_
    rintro e w1 ⟨rfl, hb1⟩
    have B1 := below_succ hb1
    clear hb1 KP
    have c0 : w1.cell? ⟨w.heap.size, 0, none⟩ = some (.int .u8 p0.l) := box_cell B1 0; have c1 : w1.cell? ⟨w.heap.size, 1, none⟩ = some (.int .u8 p0.v) := box_cell B1 1; have c2 : w1.cell? ⟨w.heap.size, 2, none⟩ = some (.int .u8 p0.m) := box_cell B1 2; have c3 : w1.cell? ⟨w.heap.size, 3, none⟩ = some (.int .u8 p0.s) := box_cell B1 3; have c4 : w1.cell? ⟨w.heap.size, 4, none⟩ = some (.int .i8 p0.po) := box_cell B1 4; have c5 : w1.cell? ⟨w.heap.size, 5, none⟩ = some (.int .i8 p0.pr) := box_cell B1 5; have c6 : w1.cell? ⟨w.heap.size, 6, none⟩ = some (.int .u32 p0.de) := box_cell B1 6; have c7 : w1.cell? ⟨w.heap.size, 7, none⟩ = some (.int .u32 p0.di) := box_cell B1 7; have c8 : w1.cell? ⟨w.heap.size, 8, none⟩ = some (.int .u32 p0.rs) := box_cell B1 8; have c9 : w1.cell? ⟨w.heap.size, 9, none⟩ = some (.int .u64 p0.rf) := box_cell B1 9; have c10 : w1.cell? ⟨w.heap.size, 10, none⟩ = some (.int .u64 p0.og) := box_cell B1 10; have c11 : w1.cell? ⟨w.heap.size, 11, none⟩ = some (.int .u64 p0.rc) := box_cell B1 11; have c12 : w1.cell? ⟨w.heap.size, 12, none⟩ = some (.int .u64 p0.xm) := box_cell B1 12
    go_wp2_with fail
    refine (KC.out _).mono ?_
    rintro e w2 ⟨rfl, hb2⟩
    have B2 := B1.trans (hb2.mono (by have := B1.size; simp at this; omega))
    clear hb2 KC c0 c1 c2 c3 c4 c5 c6 c7 c8 c9 c10 c11 c12
    have c0 : w2.cell? ⟨w.heap.size, 0, none⟩ = some (.int .u8 p0.l) := box_cell B2 0; have c1 : w2.cell? ⟨w.heap.size, 1, none⟩ = some (.int .u8 p0.v) := box_cell B2 1; have c2 : w2.cell? ⟨w.heap.size, 2, none⟩ = some (.int .u8 p0.m) := box_cell B2 2; have c3 : w2.cell? ⟨w.heap.size, 3, none⟩ = some (.int .u8 p0.s) := box_cell B2 3; have c4 : w2.cell? ⟨w.heap.size, 4, none⟩ = some (.int .i8 p0.po) := box_cell B2 4; have c5 : w2.cell? ⟨w.heap.size, 5, none⟩ = some (.int .i8 p0.pr) := box_cell B2 5; have c6 : w2.cell? ⟨w.heap.size, 6, none⟩ = some (.int .u32 p0.de) := box_cell B2 6; have c7 : w2.cell? ⟨w.heap.size, 7, none⟩ = some (.int .u32 p0.di) := box_cell B2 7; have c8 : w2.cell? ⟨w.heap.size, 8, none⟩ = some (.int .u32 p0.rs) := box_cell B2 8; have c9 : w2.cell? ⟨w.heap.size, 9, none⟩ = some (.int .u64 p0.rf) := box_cell B2 9; have c10 : w2.cell? ⟨w.heap.size, 10, none⟩ = some (.int .u64 p0.og) := box_cell B2 10; have c11 : w2.cell? ⟨w.heap.size, 11, none⟩ = some (.int .u64 p0.rc) := box_cell B2 11; have c12 : w2.cell? ⟨w.heap.size, 12, none⟩ = some (.int .u64 p0.xm) := box_cell B2 12
    go_wp2_with fail
    refine (KD.out _).mono ?_
    rintro e w3 ⟨rfl, hb3⟩
    have B3 := B2.trans (hb3.mono (by have := B2.size; simp at this; omega))
    clear hb3 KD c0 c1 c2 c3 c4 c5 c6 c7 c8 c9 c10 c11 c12 B1 B2
    go_wp2_with fail
    refine (KA.out _).mono ?_
    rintro e w4 ⟨rfl, hb4⟩
    have B4 := B3.trans (hb4.mono (by have := B3.size; simp at this; omega))
    go_wp2
    go_ret
    exact ⟨rfl, below_box B4⟩

set_option maxRecDepth 100000 in
theorem lifted (os : Os) (started : os.Started) (H : Type) (enc : TypeId × Value → H) :
    ReturnsInHanded {} Try.checked os 3 .any (Rows.packetPutsSpec.pre6 enc Try.prog Try.f3 Rows.packetPutsRow.domain false) (Rows.packetPutsSpec.post enc Try.prog Try.f3 false true false false) := by
  refine returnsInHanded_of_change (C := Try.checked) own started (by kernel_rfl) Try.func3
    (ChangeSpec.witness6 (enc := enc) (C := Try.checked) false ⟨#[], #[.agg #[.int .u8 0, .int .u8 0, .int .u8 0, .int .u8 0, .int .i8 0, .int .i8 0, .int .u32 0, .int .u32 0, .int .u32 0, .int .u64 0, .int .u64 0, .int .u64 0, .int .u64 0]], []⟩ 8 (by kernel_rfl) (by kernel_rfl) (by kernel_rfl) (by kernel_rfl)) ?_
  intro W base args ds gs before hval0 hW hcnd _
  have hval : ∀ (j : Nat) t v, Try.f3.params[j]? = some t → args[j]? = some v → Value.okWide Try.prog W .any base t v := hval0
  have hW' := hW
  obtain ⟨p, q, hA0, hV, rfl, hfz, hnd⟩ := hW
  have hA : DataW.TrodAll enc Try.prog W 0 (fun _ => true) true Try.f3.params.toList args.toList ds p := hA0
  rw [Try.params3] at hA hval
  obtain ⟨v0, vs0, d0, ds0, p0, q0, hargs, rfl, rfl, h0, r0⟩ := trodAll_cons hA
  obtain ⟨rfl, rfl, rfl⟩ := trodAll_nil r0
  obtain rfl : args = #[v0] := by cases args; simp_all
  obtain ⟨rfl, rfl⟩ := trodVars_none hV
  have k0 := h0
  have lt0 : ∀ x ∈ p0, x.block < W.heap.size := by obtain ⟨m, hm⟩ := k0; exact DataW.trod_lt m _ _ _ hm
  obtain ⟨x0_0, x0_1, x0_2, x0_3, x0_4, x0_5, x0_6, x0_7, x0_8, x0_9, x0_10, x0_11, x0_12, rfl, w0_0, w0_1, w0_2, w0_3, w0_4, w0_5, w0_6, w0_7, w0_8, w0_9, w0_10, w0_11, w0_12⟩ := open_pk (hval 0 26 v0 rfl rfl) h0
  have hp0 : (Pk.mk x0_0 x0_1 x0_2 x0_3 x0_4 x0_5 x0_6 x0_7 x0_8 x0_9 x0_10 x0_11 x0_12).In := ⟨(bounds_u8 w0_0).1, (bounds_u8 w0_0).2, (bounds_u8 w0_1).1, (bounds_u8 w0_1).2, (bounds_u8 w0_2).1, (bounds_u8 w0_2).2, (bounds_u8 w0_3).1, (bounds_u8 w0_3).2, (bounds_i8 w0_4).1, (bounds_i8 w0_4).2, (bounds_i8 w0_5).1, (bounds_i8 w0_5).2, (bounds_u32 w0_6).1, (bounds_u32 w0_6).2, (bounds_u32 w0_7).1, (bounds_u32 w0_7).2, (bounds_u32 w0_8).1, (bounds_u32 w0_8).2, (bounds_u64 w0_9).1, (bounds_u64 w0_9).2, (bounds_u64 w0_10).1, (bounds_u64 w0_10).2, (bounds_u64 w0_11).1, (bounds_u64 w0_11).2, (bounds_u64 w0_12).1, (bounds_u64 w0_12).2⟩
  clear hA0 hval0
  refine (walk ⟨x0_0, x0_1, x0_2, x0_3, x0_4, x0_5, x0_6, x0_7, x0_8, x0_9, x0_10, x0_11, x0_12⟩ W hp0).mono fun e W' ⟨he, bel⟩ => ?_
  subst he
  exact ⟨_, rfl, _, _, _, [], _, [], hW', trodAll_mk1 (shut_bool Try.underlying4 _), (trodAll_cons_mk (Below.trod laidOut (by kernel_rfl) (of_decide_eq_true (by kernel_rfl)) k0 bel lt0) trodAll_mk0), rfl, bel.frame _, fun h => by cases h⟩

theorem over : Rows.packetPutsRow.holds Try.pinned (OpenSpec.ofChange Rows.packetPutsSpec) :=
  OpenClaim.holds_of_wide 3 Try.f3 rfl rfl rfl rfl rfl rfl rfl ⟨rfl, rfl, rfl, rfl, rfl⟩ rfl rfl rfl rfl rfl (by kernel_rfl) Try.func3 (by kernel_rfl)
    (of_decide_eq_true (by kernel_rfl)) (by unfold Func.isWrapper; first | (rw [if_pos (by decide +kernel)]; kernel_rfl) | (rw [if_neg (by decide +kernel)]; exact ⟨rfl, rfl⟩))
    (fun os started H enc _ => lifted os started H enc)

theorem proved : Rows.PacketPutsSaid :=
  over
#print axioms proved
end Go.Proofs.Ytjlaoncideclnaa.packetPuts
