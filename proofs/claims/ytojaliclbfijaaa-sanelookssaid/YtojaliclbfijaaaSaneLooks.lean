/- For all bytes and every cookie the statement SaneLooks returns true: whether they may be taken is the document's, and why not; the names are the document's. No condition. -/
import Derived.Test.YtojaliclbfijaaaRows
import Derived.Test.YtojaliclbfijaaaNames
import Derived.Test.YtojaliclbfijaaaOpen
import Derived.WalkKit
import Derived.ProofKit
import Derived.OpenShut
import Derived.ShutString
import Derived.ChangeOld
import Derived.Below
namespace Go.Proofs.Ytojaliclbfijaaa.saneLooks
open Go.ChangeShapes Go.WideShapes Go.ChangeAt Go.RowKit
set_option linter.unusedVariables false

theorem own : ownKnob Try.prog.godebug = none := by kernel_rfl
theorem laidOut : laidOutB Try.prog = true := by kernel_rfl

theorem row_new2 (w : World) (cs : Array Value) (t : TypeId) (j : Nat) : (w.alloc (.cells cs t)).cell? ⟨w.heap.size, j, none⟩ = cs[j]? := cell_of_row _ _ _ _ _ _ (heap_alloc_new w _)
set_option maxHeartbeats 1000000 in
theorem walk (A0 : Option Addr) (len0 cap0 : Nat) (z0 : List Int) (a1 : Int) (w : World) (hz0 : Bytes w A0 len0 cap0 z0) (w1 : (Lit.int .u64 a1).wf = true) :
    Calls Try.prog 3 #[.slice A0 len0 cap0, .int .u64 a1] w fun e w' => e = .returned (.bool true) ∧ Below w.heap.size w w' := by
  obtain ⟨b1l, b1u⟩ := bounds_u64 w1
  clear w1
  have KA := Lib.hid alive_any
  have KN := Lib.hid names_any
  have KM := Lib.hid rnames_any
  have KL := Lib.hid (fun w hz => look_any A0 len0 cap0 z0 a1 w hz)
  have KR := Lib.hid (fun w hz => rlook_any A0 len0 cap0 z0 a1 w hz)
  have HZ := Lib.hid hz0
  obtain ⟨p, ep⟩ : ∃ p, p = lookP a1 z0 := ⟨_, rfl⟩
  obtain ⟨y, ey⟩ : ∃ y, y = lookW a1 z0 := ⟨_, rfl⟩
  rw [← ep, ← ey] at KL KR
  clear hz0 ep ey
  go_enter Try.func3, Try.ntmps3
  go_wp2_with fail
  refine (KL.out _ HZ.out).mono ?_
  rintro e w1 ⟨rfl, hb1⟩
  have KR2 := Lib.hid (KR.out (w1.alloc (.cells #[.int .u8 p.l, .int .u8 p.v, .int .u8 p.m, .int .u8 p.s, .int .i8 p.po, .int .i8 p.pr, .int .u32 p.de, .int .u32 p.di, .int .u32 p.rs, .int .u64 p.rf, .int .u64 p.og, .int .u64 p.rc, .int .u64 p.xm] 27)) (bytes_below HZ.out (hb1.alloc hb1.size _)))
  go_wp2_with fail
  refine KR2.out.mono ?_
  rintro e w2 ⟨rfl, hb2⟩
  have B2 := below_succ hb2
  clear hb2 KR2 KL KR
  go_wp2_with fail
  refine (KN.out _).mono ?_
  rintro e w3 ⟨rfl, e3⟩
  have hs3 : w3.heap.size = w2.heap.size + 2 := by rw [e3]; simp
  have E3 := Lib.hid e3
  clear e3
  go_wp2_with fail
  refine (KM.out _).mono ?_
  rintro e w4 ⟨rfl, e4⟩
  have e3 := E3.out
  have hs4 : w4.heap.size = w2.heap.size + 3 := by rw [e4]; simp; omega
  have B34 : Below (w2.heap.size + 2) w3 w4 := by rw [e4]; exact (Below.refl _ _).alloc (by omega) _
  have B23 : Below (w2.heap.size + 1) (w2.alloc (.cells #[.int .u8 p.l, .int .u8 p.v, .int .u8 p.m, .int .u8 p.s, .int .i8 p.po, .int .i8 p.pr, .int .u32 p.de, .int .u32 p.di, .int .u32 p.rs, .int .u64 p.rf, .int .u64 p.og, .int .u64 p.rc, .int .u64 p.xm] 27)) w3 := by rw [e3]; exact (Below.refl _ _).alloc (by simp) _
  have B24 := B23.trans (B34.mono (by omega))
  have hs2 : w1.heap.size + 1 ≤ w2.heap.size := by have := B2.size; simp at this; omega
  have B14 := B2.trans ((below_box B24).mono hs2)
  have n1 : ∀ j, w4.cell? ⟨w2.heap.size + 1, j, none⟩ = nameCells[j]? := by
    intro j
    rw [B34.cell (p := ⟨w2.heap.size + 1, j, none⟩) (by show w2.heap.size + 1 < w2.heap.size + 2; omega), e3]
    have := row_new2 (w2.alloc (.cells #[.int .u8 p.l, .int .u8 p.v, .int .u8 p.m, .int .u8 p.s, .int .i8 p.po, .int .i8 p.pr, .int .u32 p.de, .int .u32 p.di, .int .u32 p.rs, .int .u64 p.rf, .int .u64 p.og, .int .u64 p.rc, .int .u64 p.xm] 27)) nameCells 9 j
    rw [show (w2.alloc (.cells #[.int .u8 p.l, .int .u8 p.v, .int .u8 p.m, .int .u8 p.s, .int .i8 p.po, .int .i8 p.pr, .int .u32 p.de, .int .u32 p.di, .int .u32 p.rs, .int .u64 p.rf, .int .u64 p.og, .int .u64 p.rc, .int .u64 p.xm] 27)).heap.size = w2.heap.size + 1 by simp] at this
    exact this
  have n2 : ∀ j, w4.cell? ⟨w2.heap.size + 2, j, none⟩ = nameCells[j]? := by
    intro j
    rw [e4, ← hs3]
    exact row_new2 w3 nameCells 9 j
  have HN := Lib.hid (And.intro n1 n2)
  have HB := Lib.hid (hb1.trans ((below_box B14).mono hb1.size))
  try rw [hs3]
  have c0 : w4.cell? ⟨w1.heap.size, 0, none⟩ = some (.int .u8 p.l) := box_cell B14 0; have c1 : w4.cell? ⟨w1.heap.size, 1, none⟩ = some (.int .u8 p.v) := box_cell B14 1; have c2 : w4.cell? ⟨w1.heap.size, 2, none⟩ = some (.int .u8 p.m) := box_cell B14 2; have c3 : w4.cell? ⟨w1.heap.size, 3, none⟩ = some (.int .u8 p.s) := box_cell B14 3; have c4 : w4.cell? ⟨w1.heap.size, 4, none⟩ = some (.int .i8 p.po) := box_cell B14 4; have c5 : w4.cell? ⟨w1.heap.size, 5, none⟩ = some (.int .i8 p.pr) := box_cell B14 5; have c6 : w4.cell? ⟨w1.heap.size, 6, none⟩ = some (.int .u32 p.de) := box_cell B14 6; have c7 : w4.cell? ⟨w1.heap.size, 7, none⟩ = some (.int .u32 p.di) := box_cell B14 7; have c8 : w4.cell? ⟨w1.heap.size, 8, none⟩ = some (.int .u32 p.rs) := box_cell B14 8; have c9 : w4.cell? ⟨w1.heap.size, 9, none⟩ = some (.int .u64 p.rf) := box_cell B14 9; have c10 : w4.cell? ⟨w1.heap.size, 10, none⟩ = some (.int .u64 p.og) := box_cell B14 10; have c11 : w4.cell? ⟨w1.heap.size, 11, none⟩ = some (.int .u64 p.rc) := box_cell B14 11; have c12 : w4.cell? ⟨w1.heap.size, 12, none⟩ = some (.int .u64 p.xm) := box_cell B14 12
  have d0 : w4.cell? ⟨w2.heap.size, 0, none⟩ = some (.int .u8 p.l) := box_cell B24 0; have d1 : w4.cell? ⟨w2.heap.size, 1, none⟩ = some (.int .u8 p.v) := box_cell B24 1; have d2 : w4.cell? ⟨w2.heap.size, 2, none⟩ = some (.int .u8 p.m) := box_cell B24 2; have d3 : w4.cell? ⟨w2.heap.size, 3, none⟩ = some (.int .u8 p.s) := box_cell B24 3; have d4 : w4.cell? ⟨w2.heap.size, 4, none⟩ = some (.int .i8 p.po) := box_cell B24 4; have d5 : w4.cell? ⟨w2.heap.size, 5, none⟩ = some (.int .i8 p.pr) := box_cell B24 5; have d6 : w4.cell? ⟨w2.heap.size, 6, none⟩ = some (.int .u32 p.de) := box_cell B24 6; have d7 : w4.cell? ⟨w2.heap.size, 7, none⟩ = some (.int .u32 p.di) := box_cell B24 7; have d8 : w4.cell? ⟨w2.heap.size, 8, none⟩ = some (.int .u32 p.rs) := box_cell B24 8; have d9 : w4.cell? ⟨w2.heap.size, 9, none⟩ = some (.int .u64 p.rf) := box_cell B24 9; have d10 : w4.cell? ⟨w2.heap.size, 10, none⟩ = some (.int .u64 p.og) := box_cell B24 10; have d11 : w4.cell? ⟨w2.heap.size, 11, none⟩ = some (.int .u64 p.rc) := box_cell B24 11; have d12 : w4.cell? ⟨w2.heap.size, 12, none⟩ = some (.int .u64 p.xm) := box_cell B24 12
  clear e3 E3 e4 B34 B23 B24 B14 B2 hb1 n1 n2 KN KM
  go_wp2
  go_loopw [43] (fun i wr => ∃ n : Nat, n ≤ 13 ∧ i = .int .i64 n ∧ Below w4.heap.size w4 wr) (fun i _ => 13 - (intOf i).toNat)
  case atStart => exact ⟨0, by omega, rfl, Below.refl _ _⟩
  case round =>
    obtain ⟨n, hn, rfl, hb⟩ := hrel
    have HC := Lib.hid hb
    by_cases hlt : n < 13
    · obtain ⟨s, es⟩ := name_at n hlt
      have m1 : wr.cell? ⟨w2.heap.size + 1, n, none⟩ = some (.string s) := (hb.cell (p := ⟨w2.heap.size + 1, n, none⟩) (by show w2.heap.size + 1 < _; omega)).trans ((HN.out.1 n).trans es)
      have m2 : wr.cell? ⟨w2.heap.size + 2, n, none⟩ = some (.string s) := (hb.cell (p := ⟨w2.heap.size + 2, n, none⟩) (by show w2.heap.size + 2 < _; omega)).trans ((HN.out.2 n).trans es)
      clear hb es c0 c1 c2 c3 c4 c5 c6 c7 c8 c9 c10 c11 c12 d0 d1 d2 d3 d4 d5 d6 d7 d8 d9 d10 d11 d12
      go_wp2
      go_region
      go_wp2
      go_roundw
      case rel => exact ⟨n + 1, by omega, by go_num, HC.out.drew⟩
      case measure => simp [intOf]; omega
    · obtain rfl : n = 13 := by omega
      clear hb c0 c1 c2 c3 c4 c5 c6 c7 c8 c9 c10 c11 c12 d0 d1 d2 d3 d4 d5 d6 d7 d8 d9 d10 d11 d12
      go_wp2_with fail
      refine (KA.out _).mono ?_
      rintro e w5 ⟨rfl, hb5⟩
      go_wp2
      go_ret
      have s1 := HB.out.size
      exact ⟨rfl, HB.out.trans ((HC.out.mono s1).trans (hb5.mono (Nat.le_trans s1 HC.out.size)))⟩

set_option maxRecDepth 100000 in
theorem lifted (os : Os) (started : os.Started) (H : Type) (enc : TypeId × Value → H) :
    ReturnsInHanded {} Try.checked os 3 .any (Rows.saneLooksSpec.pre6 enc Try.prog Try.f3 Rows.saneLooksRow.domain false) (Rows.saneLooksSpec.post enc Try.prog Try.f3 false true false false) := by
  refine returnsInHanded_of_change (C := Try.checked) own started (by kernel_rfl) Try.func3
    (ChangeSpec.witness6 (enc := enc) (C := Try.checked) false ⟨#[], #[.slice none 0 0, .int .u64 0], []⟩ 8 (by kernel_rfl) (by kernel_rfl) (by kernel_rfl) (by kernel_rfl)) ?_
  intro W base args ds gs before hval0 hW hcnd _
  have hval : ∀ (j : Nat) t v, Try.f3.params[j]? = some t → args[j]? = some v → Value.okWide Try.prog W .any base t v := hval0
  have hW' := hW
  obtain ⟨p, q, hA0, hV, rfl, hfz, hnd⟩ := hW
  have hA : DataW.TrodAll enc Try.prog W 0 (fun _ => true) true Try.f3.params.toList args.toList ds p := hA0
  rw [Try.params3] at hA hval
  obtain ⟨v0, vs0, d0, ds0, p0, q0, hargs, rfl, rfl, h0, r0⟩ := trodAll_cons hA
  obtain ⟨v1, vs1, d1, ds1, p1, q1, rfl, rfl, rfl, h1, r1⟩ := trodAll_cons r0
  obtain ⟨rfl, rfl, rfl⟩ := trodAll_nil r1
  obtain rfl : args = #[v0, v1] := by cases args; simp_all
  obtain ⟨rfl, rfl⟩ := trodVars_none hV
  have k0 := h0
  have lt0 : ∀ x ∈ p0, x.block < W.heap.size := by obtain ⟨m, hm⟩ := k0; exact DataW.trod_lt m _ _ _ hm
  obtain ⟨A0, len0, cap0, rfl⟩ := okWide_slice Try.underlying22 (hval 0 22 v0 rfl rfl)
  obtain ⟨z0, hz0⟩ := open_bytes h0
  obtain ⟨a1, rfl, rfl, rfl, w1⟩ := open_int Try.underlying23 (hval 1 23 v1 rfl rfl) h1
  clear hA0 hval0
  refine (walk A0 len0 cap0 z0 a1 W hz0 w1).mono fun e W' ⟨he, bel⟩ => ?_
  subst he
  exact ⟨_, rfl, _, _, _, [], _, [], hW', trodAll_mk1 (shut_bool Try.underlying4 _), (trodAll_cons_mk (Below.trod laidOut (by kernel_rfl) (of_decide_eq_true (by kernel_rfl)) k0 bel lt0) (trodAll_cons_mk (shut_int Try.underlying23 w1) trodAll_mk0)), rfl, bel.frame _, fun h => by cases h⟩

theorem over : Rows.saneLooksRow.holds Try.pinned (OpenSpec.ofChange Rows.saneLooksSpec) :=
  OpenClaim.holds_of_wide 3 Try.f3 rfl rfl rfl rfl rfl rfl rfl ⟨rfl, rfl, rfl, rfl, rfl⟩ rfl rfl rfl rfl rfl (by kernel_rfl) Try.func3 (by kernel_rfl)
    (of_decide_eq_true (by kernel_rfl)) (by unfold Func.isWrapper; first | (rw [if_pos (by decide +kernel)]; kernel_rfl) | (rw [if_neg (by decide +kernel)]; exact ⟨rfl, rfl⟩))
    (fun os started H enc _ => lifted os started H enc)

theorem proved : Rows.SaneLooksSaid :=
  over
#print axioms proved
end Go.Proofs.Ytojaliclbfijaaa.saneLooks
