/- For all bytes the statement PacketGets returns true: the packet that they begin with is the document's, or that there is none. No condition. -/
import Derived.Test.YtjlaoncideclnaaRows
import Derived.Test.YtjlaoncideclnaaRback
import Derived.Test.YtjlaoncideclnaaOpen
import Derived.WalkKit
import Derived.ProofKit
import Derived.OpenShut
import Derived.ShutString
import Derived.ChangeOld
import Derived.Below
import Derived.Deep.RegionWith
import Derived.Deep.DrawnRows
namespace Go.Proofs.Ytjlaoncideclnaa.packetGets
open Go.ChangeShapes Go.WideShapes Go.ChangeAt Go.RowKit
set_option linter.unusedVariables false

theorem own : ownKnob Try.prog.godebug = none := by kernel_rfl
theorem laidOut : laidOutB Try.prog = true := by kernel_rfl

set_option maxHeartbeats 1000000 in
theorem walk (A0 : Option Addr) (len0 cap0 : Nat) (z0 : List Int) (w : World) (hz0 : Bytes w A0 len0 cap0 z0) :
    Calls Try.prog 4 #[.slice A0 len0 cap0] w fun e w' => e = .returned (.bool true) ∧ Below w.heap.size w w' := by
  obtain ⟨hl, hlc, hcm, hall, hat, _⟩ := hz0
  have KA := Lib.hid alive_any
  by_cases h48 : len0 < 48
  · have KG := Lib.hid (fun w => get_short A0 len0 cap0 w h48)
    have KR := Lib.hid (fun w => rget_short A0 len0 cap0 w h48)
    clear hl hlc hcm hall hat
    go_enter Try.func4, Try.ntmps4
    go_wp2_with fail
    refine (KG.out _).mono ?_
    rintro e w1 ⟨rfl, hb1⟩
    go_wp2_with fail
    refine (KR.out _).mono ?_
    rintro e w2 ⟨rfl, hb2⟩
    have B2 := below_succ hb2
    clear hb2
    go_wp2_with fail
    refine (KA.out _).mono ?_
    rintro e w3 ⟨rfl, hb3⟩
    have B3 := below_succ hb3
    have hs2 : w1.heap.size + 1 ≤ w2.heap.size := by have := B2.size; simp at this; omega
    have B4 := B2.trans ((below_box B3).mono hs2)
    clear hb3
    have c0 : w3.cell? ⟨w1.heap.size, 0, none⟩ = some (.int .u8 0) := box_cell B4 0; have c1 : w3.cell? ⟨w1.heap.size, 1, none⟩ = some (.int .u8 0) := box_cell B4 1; have c2 : w3.cell? ⟨w1.heap.size, 2, none⟩ = some (.int .u8 0) := box_cell B4 2; have c3 : w3.cell? ⟨w1.heap.size, 3, none⟩ = some (.int .u8 0) := box_cell B4 3; have c4 : w3.cell? ⟨w1.heap.size, 4, none⟩ = some (.int .i8 0) := box_cell B4 4; have c5 : w3.cell? ⟨w1.heap.size, 5, none⟩ = some (.int .i8 0) := box_cell B4 5; have c6 : w3.cell? ⟨w1.heap.size, 6, none⟩ = some (.int .u32 0) := box_cell B4 6; have c7 : w3.cell? ⟨w1.heap.size, 7, none⟩ = some (.int .u32 0) := box_cell B4 7; have c8 : w3.cell? ⟨w1.heap.size, 8, none⟩ = some (.int .u32 0) := box_cell B4 8; have c9 : w3.cell? ⟨w1.heap.size, 9, none⟩ = some (.int .u64 0) := box_cell B4 9; have c10 : w3.cell? ⟨w1.heap.size, 10, none⟩ = some (.int .u64 0) := box_cell B4 10; have c11 : w3.cell? ⟨w1.heap.size, 11, none⟩ = some (.int .u64 0) := box_cell B4 11; have c12 : w3.cell? ⟨w1.heap.size, 12, none⟩ = some (.int .u64 0) := box_cell B4 12
    have d0 : w3.cell? ⟨w2.heap.size, 0, none⟩ = some (.int .u8 0) := box_cell B3 0; have d1 : w3.cell? ⟨w2.heap.size, 1, none⟩ = some (.int .u8 0) := box_cell B3 1; have d2 : w3.cell? ⟨w2.heap.size, 2, none⟩ = some (.int .u8 0) := box_cell B3 2; have d3 : w3.cell? ⟨w2.heap.size, 3, none⟩ = some (.int .u8 0) := box_cell B3 3; have d4 : w3.cell? ⟨w2.heap.size, 4, none⟩ = some (.int .i8 0) := box_cell B3 4; have d5 : w3.cell? ⟨w2.heap.size, 5, none⟩ = some (.int .i8 0) := box_cell B3 5; have d6 : w3.cell? ⟨w2.heap.size, 6, none⟩ = some (.int .u32 0) := box_cell B3 6; have d7 : w3.cell? ⟨w2.heap.size, 7, none⟩ = some (.int .u32 0) := box_cell B3 7; have d8 : w3.cell? ⟨w2.heap.size, 8, none⟩ = some (.int .u32 0) := box_cell B3 8; have d9 : w3.cell? ⟨w2.heap.size, 9, none⟩ = some (.int .u64 0) := box_cell B3 9; have d10 : w3.cell? ⟨w2.heap.size, 10, none⟩ = some (.int .u64 0) := box_cell B3 10; have d11 : w3.cell? ⟨w2.heap.size, 11, none⟩ = some (.int .u64 0) := box_cell B3 11; have d12 : w3.cell? ⟨w2.heap.size, 12, none⟩ = some (.int .u64 0) := box_cell B3 12
    go_wp2
    go_ret
    exact ⟨rfl, hb1.trans ((below_box B4).mono hb1.size)⟩
  · obtain ⟨g, o, rfl, hg, hh⟩ := hat (by omega)
    obtain ⟨p, ep⟩ : ∃ p, p = pkOf z0 := ⟨_, rfl⟩
    have KG := Lib.hid (fun w hg hh => get_ok g o len0 cap0 z0 w hl (by omega) hlc hcm hall hg hh)
    have KR := Lib.hid (fun w hg hh => rget_ok g o len0 cap0 z0 w hl (by omega) hlc hcm hall hg hh)
    rw [← ep] at KG KR
    have HH := Lib.hid hh
    clear hl hlc hcm hall hat ep hh
    go_enter Try.func4, Try.ntmps4
    go_wp2_with fail
    refine (KG.out _ hg HH.out).mono ?_
    rintro e w1 ⟨rfl, hb1⟩
    have KR2 := Lib.hid (KR.out (w1.alloc (.cells #[.int .u8 p.l, .int .u8 p.v, .int .u8 p.m, .int .u8 p.s, .int .i8 p.po, .int .i8 p.pr, .int .u32 p.de, .int .u32 p.di, .int .u32 p.rs, .int .u64 p.rf, .int .u64 p.og, .int .u64 p.rc, .int .u64 p.xm] 26)) (by have := hb1.size; simp; omega) (has_below HH.out hg (hb1.alloc hb1.size _)))
    clear KG KR
    go_wp2_with fail
    refine (KR2.out).mono ?_
    rintro e w2 ⟨rfl, hb2⟩
    have B2 := below_succ hb2
    clear hb2 KR2
    go_wp2_with fail
    refine (KA.out _).mono ?_
    rintro e w3 ⟨rfl, hb3⟩
    have B3 := below_succ hb3
    have hs2 : w1.heap.size + 1 ≤ w2.heap.size := by have := B2.size; simp at this; omega
    have B4 := B2.trans ((below_box B3).mono hs2)
    clear hb3
    have c0 : w3.cell? ⟨w1.heap.size, 0, none⟩ = some (.int .u8 p.l) := box_cell B4 0; have c1 : w3.cell? ⟨w1.heap.size, 1, none⟩ = some (.int .u8 p.v) := box_cell B4 1; have c2 : w3.cell? ⟨w1.heap.size, 2, none⟩ = some (.int .u8 p.m) := box_cell B4 2; have c3 : w3.cell? ⟨w1.heap.size, 3, none⟩ = some (.int .u8 p.s) := box_cell B4 3; have c4 : w3.cell? ⟨w1.heap.size, 4, none⟩ = some (.int .i8 p.po) := box_cell B4 4; have c5 : w3.cell? ⟨w1.heap.size, 5, none⟩ = some (.int .i8 p.pr) := box_cell B4 5; have c6 : w3.cell? ⟨w1.heap.size, 6, none⟩ = some (.int .u32 p.de) := box_cell B4 6; have c7 : w3.cell? ⟨w1.heap.size, 7, none⟩ = some (.int .u32 p.di) := box_cell B4 7; have c8 : w3.cell? ⟨w1.heap.size, 8, none⟩ = some (.int .u32 p.rs) := box_cell B4 8; have c9 : w3.cell? ⟨w1.heap.size, 9, none⟩ = some (.int .u64 p.rf) := box_cell B4 9; have c10 : w3.cell? ⟨w1.heap.size, 10, none⟩ = some (.int .u64 p.og) := box_cell B4 10; have c11 : w3.cell? ⟨w1.heap.size, 11, none⟩ = some (.int .u64 p.rc) := box_cell B4 11; have c12 : w3.cell? ⟨w1.heap.size, 12, none⟩ = some (.int .u64 p.xm) := box_cell B4 12
    have d0 : w3.cell? ⟨w2.heap.size, 0, none⟩ = some (.int .u8 p.l) := box_cell B3 0; have d1 : w3.cell? ⟨w2.heap.size, 1, none⟩ = some (.int .u8 p.v) := box_cell B3 1; have d2 : w3.cell? ⟨w2.heap.size, 2, none⟩ = some (.int .u8 p.m) := box_cell B3 2; have d3 : w3.cell? ⟨w2.heap.size, 3, none⟩ = some (.int .u8 p.s) := box_cell B3 3; have d4 : w3.cell? ⟨w2.heap.size, 4, none⟩ = some (.int .i8 p.po) := box_cell B3 4; have d5 : w3.cell? ⟨w2.heap.size, 5, none⟩ = some (.int .i8 p.pr) := box_cell B3 5; have d6 : w3.cell? ⟨w2.heap.size, 6, none⟩ = some (.int .u32 p.de) := box_cell B3 6; have d7 : w3.cell? ⟨w2.heap.size, 7, none⟩ = some (.int .u32 p.di) := box_cell B3 7; have d8 : w3.cell? ⟨w2.heap.size, 8, none⟩ = some (.int .u32 p.rs) := box_cell B3 8; have d9 : w3.cell? ⟨w2.heap.size, 9, none⟩ = some (.int .u64 p.rf) := box_cell B3 9; have d10 : w3.cell? ⟨w2.heap.size, 10, none⟩ = some (.int .u64 p.og) := box_cell B3 10; have d11 : w3.cell? ⟨w2.heap.size, 11, none⟩ = some (.int .u64 p.rc) := box_cell B3 11; have d12 : w3.cell? ⟨w2.heap.size, 12, none⟩ = some (.int .u64 p.xm) := box_cell B3 12
    go_wp2
    go_ret
    exact ⟨rfl, hb1.trans ((below_box B4).mono hb1.size)⟩

set_option maxRecDepth 100000 in
theorem lifted (os : Os) (started : os.Started) (H : Type) (enc : TypeId × Value → H) :
    ReturnsInHanded {} Try.checked os 4 .any (Rows.packetGetsSpec.pre6 enc Try.prog Try.f4 Rows.packetGetsRow.domain false) (Rows.packetGetsSpec.post enc Try.prog Try.f4 false true false false) := by
  refine returnsInHanded_of_change (C := Try.checked) own started (by kernel_rfl) Try.func4
    (ChangeSpec.witness6 (enc := enc) (C := Try.checked) false ⟨#[], #[.slice none 0 0], []⟩ 8 (by kernel_rfl) (by kernel_rfl) (by kernel_rfl) (by kernel_rfl)) ?_
  intro W base args ds gs before hval0 hW hcnd _
  have hval : ∀ (j : Nat) t v, Try.f4.params[j]? = some t → args[j]? = some v → Value.okWide Try.prog W .any base t v := hval0
  have hW' := hW
  obtain ⟨p, q, hA0, hV, rfl, hfz, hnd⟩ := hW
  have hA : DataW.TrodAll enc Try.prog W 0 (fun _ => true) true Try.f4.params.toList args.toList ds p := hA0
  rw [Try.params4] at hA hval
  obtain ⟨v0, vs0, d0, ds0, p0, q0, hargs, rfl, rfl, h0, r0⟩ := trodAll_cons hA
  obtain ⟨rfl, rfl, rfl⟩ := trodAll_nil r0
  obtain rfl : args = #[v0] := by cases args; simp_all
  obtain ⟨rfl, rfl⟩ := trodVars_none hV
  have k0 := h0
  have lt0 : ∀ x ∈ p0, x.block < W.heap.size := by obtain ⟨m, hm⟩ := k0; exact DataW.trod_lt m _ _ _ hm
  obtain ⟨A0, len0, cap0, rfl⟩ := okWide_slice Try.underlying27 (hval 0 27 v0 rfl rfl)
  obtain ⟨z0, hz0⟩ := open_bytes h0
  clear hA0 hval0
  refine (walk A0 len0 cap0 z0 W hz0).mono fun e W' ⟨he, bel⟩ => ?_
  subst he
  exact ⟨_, rfl, _, _, _, [], _, [], hW', trodAll_mk1 (shut_bool Try.underlying4 _), (trodAll_cons_mk (Below.trod laidOut (by kernel_rfl) (of_decide_eq_true (by kernel_rfl)) k0 bel lt0) trodAll_mk0), rfl, bel.frame _, fun h => by cases h⟩

theorem over : Rows.packetGetsRow.holds Try.pinned (OpenSpec.ofChange Rows.packetGetsSpec) :=
  OpenClaim.holds_of_wide 4 Try.f4 rfl rfl rfl rfl rfl rfl rfl ⟨rfl, rfl, rfl, rfl, rfl⟩ rfl rfl rfl rfl rfl (by kernel_rfl) Try.func4 (by kernel_rfl)
    (of_decide_eq_true (by kernel_rfl)) (by unfold Func.isWrapper; first | (rw [if_pos (by decide +kernel)]; kernel_rfl) | (rw [if_neg (by decide +kernel)]; exact ⟨rfl, rfl⟩))
    (fun os started H enc _ => lifted os started H enc)

theorem proved : Rows.PacketGetsSaid :=
  over
#print axioms proved
end Go.Proofs.Ytjlaoncideclnaa.packetGets
