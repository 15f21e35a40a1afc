/- The first reason that applies: the list of tests, gone through. -/
import Derived.Test.YtfknefpfekjnnaaWhy
namespace Go.Proofs.Ytfknefpfekjnnaa
open Go.RowKit

/-- What stands while the tests are gone through: the boxed answer, and the tests behind it. -/
structure Held (w : World) (box : Array Value) (wr : World) : Prop where
  below : Below (w.heap.size + 2) ((w.alloc (.cells box 94)).alloc (.cells testCells 114)) wr
theorem Held.box {w wr : World} {box : Array Value} (h : Held w box wr) (j : Nat) : wr.cell? ⟨w.heap.size, j, none⟩ = box[j]? := by
  rw [h.below.cell (p := ⟨w.heap.size, j, none⟩) (by show w.heap.size < w.heap.size + 2; omega), World.cell?_alloc_lt _ _ _ (by simp)]
  exact cell_of_row _ _ _ _ _ _ (heap_alloc_new w _)
theorem Held.box2 {w wr : World} {box : Array Value} (h : Held w box wr) (o : Obj) (j : Nat) : (wr.alloc o).cell? ⟨w.heap.size, j, none⟩ = box[j]? := by
  have hs := h.below.size
  simp at hs
  rw [World.cell?_alloc_lt _ _ _ (by show w.heap.size < wr.heap.size; omega)]
  exact h.box j
theorem Held.test {w wr : World} {box : Array Value} (h : Held w box wr) (j : Nat) : wr.cell? ⟨w.heap.size + 1, j, none⟩ = testCells[j]? := by
  rw [h.below.cell (p := ⟨w.heap.size + 1, j, none⟩) (by show w.heap.size + 1 < w.heap.size + 2; omega)]
  have := heap_alloc_new (w.alloc (.cells box 94)) (.cells testCells 114)
  rw [show (w.alloc (.cells box 94)).heap.size = w.heap.size + 1 by simp] at this
  exact cell_of_row _ _ _ _ _ _ this
theorem Held.low {w wr : World} {box : Array Value} (h : Held w box wr) : Below w.heap.size w wr :=
  (((Below.refl _ w).alloc (Nat.le_refl _) _).alloc (by simp) _).trans (h.below.mono (by omega))

/-- A round's own block, and a call behind it. -/
theorem Held.step {w wr w2 : World} {box : Array Value} {o : Obj} (h : Held w box wr) (h2 : Below (wr.alloc o).heap.size (wr.alloc o) w2) : Held w box w2 := by
  have hs := h.below.size
  simp at hs
  exact ⟨(h.below.alloc (by omega) o).trans (h2.mono (by simp; omega))⟩
theorem round_cell {wr w2 : World} {cs : Array Value} {t : TypeId} (h2 : Below (wr.alloc (.cells cs t)).heap.size (wr.alloc (.cells cs t)) w2) (j : Nat) : w2.cell? ⟨wr.heap.size, j, none⟩ = cs[j]? := by
  rw [h2.cell (p := ⟨wr.heap.size, j, none⟩) (by show wr.heap.size < (wr.alloc (.cells cs t)).heap.size; simp)]
  exact cell_of_row _ _ _ _ _ _ (heap_alloc_new wr _)

set_option maxHeartbeats 2000000 in
theorem reason_any (k e : Int) (p : Pk) (w : World) : Calls Try.prog 50 #[.agg #[.int .u64 k, .int .u8 p.l, .int .u8 p.v, .int .u8 p.m, .int .u8 p.s, .int .i8 p.po, .int .i8 p.pr, .int .u32 p.de, .int .u32 p.di, .int .u32 p.rs, .int .u64 p.rf, .int .u64 p.og, .int .u64 p.rc, .int .u64 p.xm, .int .i64 e]] w fun x w' => x = .returned (.int .i64 (whyOf k p e)) ∧ Below w.heap.size w w' := by
  have K1 := Lib.hid (fun w => app1 k e p w)
  have K2 := Lib.hid (fun w => app2 k e p w)
  have K3 := Lib.hid (fun w => app3 k e p w)
  have K4 := Lib.hid (fun w => app4 k e p w)
  have K5 := Lib.hid (fun w => app5 k e p w)
  have K6 := Lib.hid (fun w => app6 k e p w)
  have K7 := Lib.hid (fun w => app7 k e p w)
  have K8 := Lib.hid (fun w => app8 k e p w)
  have KT := Lib.hid tests_any
  go_enter Try.func50, Try.ntmps50
  go_wp2_with fail
  refine (KT.out _).mono ?_
  rintro x w1 ⟨rfl, hw1⟩
  have H0 : Held w #[.int .u64 k, .int .u8 p.l, .int .u8 p.v, .int .u8 p.m, .int .u8 p.s, .int .i8 p.po, .int .i8 p.pr, .int .u32 p.de, .int .u32 p.di, .int .u32 p.rs, .int .u64 p.rf, .int .u64 p.og, .int .u64 p.rc, .int .u64 p.xm, .int .i64 e] w1 := ⟨by rw [hw1]; exact Below.refl _ _⟩
  have HH := Lib.hid H0
  clear hw1 H0
  have es : (w.alloc (.cells #[.int .u64 k, .int .u8 p.l, .int .u8 p.v, .int .u8 p.m, .int .u8 p.s, .int .i8 p.po, .int .i8 p.pr, .int .u32 p.de, .int .u32 p.di, .int .u32 p.rs, .int .u64 p.rf, .int .u64 p.og, .int .u64 p.rc, .int .u64 p.xm, .int .i64 e] 94)).heap.size = w.heap.size + 1 := by simp
  try rw [es]
  clear es
  go_wp2
  go_loopw [7] (fun i wr => ∃ n : Nat, n ≤ 8 ∧ i = .int .i64 n ∧ Held w #[.int .u64 k, .int .u8 p.l, .int .u8 p.v, .int .u8 p.m, .int .u8 p.s, .int .i8 p.po, .int .i8 p.pr, .int .u32 p.de, .int .u32 p.di, .int .u32 p.rs, .int .u64 p.rf, .int .u64 p.og, .int .u64 p.rc, .int .u64 p.xm, .int .i64 e] wr ∧ whyL ((tests k p e).drop n) = whyOf k p e) (fun i _ => 8 - (intOf i).toNat)
  case atStart => exact ⟨0, by omega, rfl, HH.out, rfl⟩
  case round =>
    obtain ⟨n, hn, rfl, hh, hw⟩ := hrel
    obtain rfl | rfl | rfl | rfl | rfl | rfl | rfl | rfl | rfl : n = 0 ∨ n = 1 ∨ n = 2 ∨ n = 3 ∨ n = 4 ∨ n = 5 ∨ n = 6 ∨ n = 7 ∨ n = 8 := by omega
    · have HD := Lib.hid hh
      have HW := Lib.hid hw
      have t0 : wr.cell? ⟨w.heap.size + 1, 0, none⟩ = some (.int .i64 1) := hh.test 0
      have t1 : wr.cell? ⟨w.heap.size + 1, 1, none⟩ = some (.func (.func 79) #[] #[]) := hh.test 1
      have c0 : (wr.alloc (.cells #[.int .i64 1, .func (.func 79) #[] #[]] 114)).cell? ⟨w.heap.size, 0, none⟩ = some (.int .u64 k) := hh.box2 _ 0; have c1 : (wr.alloc (.cells #[.int .i64 1, .func (.func 79) #[] #[]] 114)).cell? ⟨w.heap.size, 1, none⟩ = some (.int .u8 p.l) := hh.box2 _ 1; have c2 : (wr.alloc (.cells #[.int .i64 1, .func (.func 79) #[] #[]] 114)).cell? ⟨w.heap.size, 2, none⟩ = some (.int .u8 p.v) := hh.box2 _ 2; have c3 : (wr.alloc (.cells #[.int .i64 1, .func (.func 79) #[] #[]] 114)).cell? ⟨w.heap.size, 3, none⟩ = some (.int .u8 p.m) := hh.box2 _ 3; have c4 : (wr.alloc (.cells #[.int .i64 1, .func (.func 79) #[] #[]] 114)).cell? ⟨w.heap.size, 4, none⟩ = some (.int .u8 p.s) := hh.box2 _ 4; have c5 : (wr.alloc (.cells #[.int .i64 1, .func (.func 79) #[] #[]] 114)).cell? ⟨w.heap.size, 5, none⟩ = some (.int .i8 p.po) := hh.box2 _ 5; have c6 : (wr.alloc (.cells #[.int .i64 1, .func (.func 79) #[] #[]] 114)).cell? ⟨w.heap.size, 6, none⟩ = some (.int .i8 p.pr) := hh.box2 _ 6; have c7 : (wr.alloc (.cells #[.int .i64 1, .func (.func 79) #[] #[]] 114)).cell? ⟨w.heap.size, 7, none⟩ = some (.int .u32 p.de) := hh.box2 _ 7; have c8 : (wr.alloc (.cells #[.int .i64 1, .func (.func 79) #[] #[]] 114)).cell? ⟨w.heap.size, 8, none⟩ = some (.int .u32 p.di) := hh.box2 _ 8; have c9 : (wr.alloc (.cells #[.int .i64 1, .func (.func 79) #[] #[]] 114)).cell? ⟨w.heap.size, 9, none⟩ = some (.int .u32 p.rs) := hh.box2 _ 9; have c10 : (wr.alloc (.cells #[.int .i64 1, .func (.func 79) #[] #[]] 114)).cell? ⟨w.heap.size, 10, none⟩ = some (.int .u64 p.rf) := hh.box2 _ 10; have c11 : (wr.alloc (.cells #[.int .i64 1, .func (.func 79) #[] #[]] 114)).cell? ⟨w.heap.size, 11, none⟩ = some (.int .u64 p.og) := hh.box2 _ 11; have c12 : (wr.alloc (.cells #[.int .i64 1, .func (.func 79) #[] #[]] 114)).cell? ⟨w.heap.size, 12, none⟩ = some (.int .u64 p.rc) := hh.box2 _ 12; have c13 : (wr.alloc (.cells #[.int .i64 1, .func (.func 79) #[] #[]] 114)).cell? ⟨w.heap.size, 13, none⟩ = some (.int .u64 p.xm) := hh.box2 _ 13; have c14 : (wr.alloc (.cells #[.int .i64 1, .func (.func 79) #[] #[]] 114)).cell? ⟨w.heap.size, 14, none⟩ = some (.int .i64 e) := hh.box2 _ 14
      clear hh hw
      go_wp2_with fail
      refine (K1.out _).mono ?_
      rintro x w2 ⟨rfl, hb⟩
      have q0 : w2.cell? ⟨wr.heap.size, 0, none⟩ = some (.int .i64 1) := round_cell hb 0
      have HE := Lib.hid (HD.out.step hb)
      clear hb t0 t1 c0 c1 c2 c3 c4 c5 c6 c7 c8 c9 c10 c11 c12 c13 c14
      cases hd : decide (e ≠ 0) with
      | true =>
        have hr : whyOf k p e = 1 := by rw [← HW.out]; show (if decide (e ≠ 0) = true then (1 : Int) else _) = _; rw [hd, if_pos rfl]
        have HR := Lib.hid hr
        clear hr hd HW
        go_wp2
        go_ret
        exact ⟨by rw [HR.out]; rfl, HE.out.low⟩
      | false =>
        have hr : whyL ((tests k p e).drop 1) = whyOf k p e := by rw [← HW.out]; show _ = (if decide (e ≠ 0) = true then (1 : Int) else _); rw [hd, if_neg (by decide)]; rfl
        have HR := Lib.hid hr
        clear hr hd HW
        go_wp2
        go_roundw
        case rel => exact ⟨1, by omega, by go_num, HE.out, HR.out⟩
        case measure => simp [intOf]
    · have HD := Lib.hid hh
      have HW := Lib.hid hw
      have t0 : wr.cell? ⟨w.heap.size + 1, 2, none⟩ = some (.int .i64 5) := hh.test 2
      have t1 : wr.cell? ⟨w.heap.size + 1, 3, none⟩ = some (.func (.func 80) #[] #[]) := hh.test 3
      have c0 : (wr.alloc (.cells #[.int .i64 5, .func (.func 80) #[] #[]] 114)).cell? ⟨w.heap.size, 0, none⟩ = some (.int .u64 k) := hh.box2 _ 0; have c1 : (wr.alloc (.cells #[.int .i64 5, .func (.func 80) #[] #[]] 114)).cell? ⟨w.heap.size, 1, none⟩ = some (.int .u8 p.l) := hh.box2 _ 1; have c2 : (wr.alloc (.cells #[.int .i64 5, .func (.func 80) #[] #[]] 114)).cell? ⟨w.heap.size, 2, none⟩ = some (.int .u8 p.v) := hh.box2 _ 2; have c3 : (wr.alloc (.cells #[.int .i64 5, .func (.func 80) #[] #[]] 114)).cell? ⟨w.heap.size, 3, none⟩ = some (.int .u8 p.m) := hh.box2 _ 3; have c4 : (wr.alloc (.cells #[.int .i64 5, .func (.func 80) #[] #[]] 114)).cell? ⟨w.heap.size, 4, none⟩ = some (.int .u8 p.s) := hh.box2 _ 4; have c5 : (wr.alloc (.cells #[.int .i64 5, .func (.func 80) #[] #[]] 114)).cell? ⟨w.heap.size, 5, none⟩ = some (.int .i8 p.po) := hh.box2 _ 5; have c6 : (wr.alloc (.cells #[.int .i64 5, .func (.func 80) #[] #[]] 114)).cell? ⟨w.heap.size, 6, none⟩ = some (.int .i8 p.pr) := hh.box2 _ 6; have c7 : (wr.alloc (.cells #[.int .i64 5, .func (.func 80) #[] #[]] 114)).cell? ⟨w.heap.size, 7, none⟩ = some (.int .u32 p.de) := hh.box2 _ 7; have c8 : (wr.alloc (.cells #[.int .i64 5, .func (.func 80) #[] #[]] 114)).cell? ⟨w.heap.size, 8, none⟩ = some (.int .u32 p.di) := hh.box2 _ 8; have c9 : (wr.alloc (.cells #[.int .i64 5, .func (.func 80) #[] #[]] 114)).cell? ⟨w.heap.size, 9, none⟩ = some (.int .u32 p.rs) := hh.box2 _ 9; have c10 : (wr.alloc (.cells #[.int .i64 5, .func (.func 80) #[] #[]] 114)).cell? ⟨w.heap.size, 10, none⟩ = some (.int .u64 p.rf) := hh.box2 _ 10; have c11 : (wr.alloc (.cells #[.int .i64 5, .func (.func 80) #[] #[]] 114)).cell? ⟨w.heap.size, 11, none⟩ = some (.int .u64 p.og) := hh.box2 _ 11; have c12 : (wr.alloc (.cells #[.int .i64 5, .func (.func 80) #[] #[]] 114)).cell? ⟨w.heap.size, 12, none⟩ = some (.int .u64 p.rc) := hh.box2 _ 12; have c13 : (wr.alloc (.cells #[.int .i64 5, .func (.func 80) #[] #[]] 114)).cell? ⟨w.heap.size, 13, none⟩ = some (.int .u64 p.xm) := hh.box2 _ 13; have c14 : (wr.alloc (.cells #[.int .i64 5, .func (.func 80) #[] #[]] 114)).cell? ⟨w.heap.size, 14, none⟩ = some (.int .i64 e) := hh.box2 _ 14
      clear hh hw
      go_wp2_with fail
      refine (K2.out _).mono ?_
      rintro x w2 ⟨rfl, hb⟩
      have q0 : w2.cell? ⟨wr.heap.size, 0, none⟩ = some (.int .i64 5) := round_cell hb 0
      have HE := Lib.hid (HD.out.step hb)
      clear hb t0 t1 c0 c1 c2 c3 c4 c5 c6 c7 c8 c9 c10 c11 c12 c13 c14
      cases hd : decide (p.v ≠ 4) with
      | true =>
        have hr : whyOf k p e = 5 := by rw [← HW.out]; show (if decide (p.v ≠ 4) = true then (5 : Int) else _) = _; rw [hd, if_pos rfl]
        have HR := Lib.hid hr
        clear hr hd HW
        go_wp2
        go_ret
        exact ⟨by rw [HR.out]; rfl, HE.out.low⟩
      | false =>
        have hr : whyL ((tests k p e).drop 2) = whyOf k p e := by rw [← HW.out]; show _ = (if decide (p.v ≠ 4) = true then (5 : Int) else _); rw [hd, if_neg (by decide)]; rfl
        have HR := Lib.hid hr
        clear hr hd HW
        go_wp2
        go_roundw
        case rel => exact ⟨2, by omega, by go_num, HE.out, HR.out⟩
        case measure => simp [intOf]
    · have HD := Lib.hid hh
      have HW := Lib.hid hw
      have t0 : wr.cell? ⟨w.heap.size + 1, 4, none⟩ = some (.int .i64 6) := hh.test 4
      have t1 : wr.cell? ⟨w.heap.size + 1, 5, none⟩ = some (.func (.func 81) #[] #[]) := hh.test 5
      have c0 : (wr.alloc (.cells #[.int .i64 6, .func (.func 81) #[] #[]] 114)).cell? ⟨w.heap.size, 0, none⟩ = some (.int .u64 k) := hh.box2 _ 0; have c1 : (wr.alloc (.cells #[.int .i64 6, .func (.func 81) #[] #[]] 114)).cell? ⟨w.heap.size, 1, none⟩ = some (.int .u8 p.l) := hh.box2 _ 1; have c2 : (wr.alloc (.cells #[.int .i64 6, .func (.func 81) #[] #[]] 114)).cell? ⟨w.heap.size, 2, none⟩ = some (.int .u8 p.v) := hh.box2 _ 2; have c3 : (wr.alloc (.cells #[.int .i64 6, .func (.func 81) #[] #[]] 114)).cell? ⟨w.heap.size, 3, none⟩ = some (.int .u8 p.m) := hh.box2 _ 3; have c4 : (wr.alloc (.cells #[.int .i64 6, .func (.func 81) #[] #[]] 114)).cell? ⟨w.heap.size, 4, none⟩ = some (.int .u8 p.s) := hh.box2 _ 4; have c5 : (wr.alloc (.cells #[.int .i64 6, .func (.func 81) #[] #[]] 114)).cell? ⟨w.heap.size, 5, none⟩ = some (.int .i8 p.po) := hh.box2 _ 5; have c6 : (wr.alloc (.cells #[.int .i64 6, .func (.func 81) #[] #[]] 114)).cell? ⟨w.heap.size, 6, none⟩ = some (.int .i8 p.pr) := hh.box2 _ 6; have c7 : (wr.alloc (.cells #[.int .i64 6, .func (.func 81) #[] #[]] 114)).cell? ⟨w.heap.size, 7, none⟩ = some (.int .u32 p.de) := hh.box2 _ 7; have c8 : (wr.alloc (.cells #[.int .i64 6, .func (.func 81) #[] #[]] 114)).cell? ⟨w.heap.size, 8, none⟩ = some (.int .u32 p.di) := hh.box2 _ 8; have c9 : (wr.alloc (.cells #[.int .i64 6, .func (.func 81) #[] #[]] 114)).cell? ⟨w.heap.size, 9, none⟩ = some (.int .u32 p.rs) := hh.box2 _ 9; have c10 : (wr.alloc (.cells #[.int .i64 6, .func (.func 81) #[] #[]] 114)).cell? ⟨w.heap.size, 10, none⟩ = some (.int .u64 p.rf) := hh.box2 _ 10; have c11 : (wr.alloc (.cells #[.int .i64 6, .func (.func 81) #[] #[]] 114)).cell? ⟨w.heap.size, 11, none⟩ = some (.int .u64 p.og) := hh.box2 _ 11; have c12 : (wr.alloc (.cells #[.int .i64 6, .func (.func 81) #[] #[]] 114)).cell? ⟨w.heap.size, 12, none⟩ = some (.int .u64 p.rc) := hh.box2 _ 12; have c13 : (wr.alloc (.cells #[.int .i64 6, .func (.func 81) #[] #[]] 114)).cell? ⟨w.heap.size, 13, none⟩ = some (.int .u64 p.xm) := hh.box2 _ 13; have c14 : (wr.alloc (.cells #[.int .i64 6, .func (.func 81) #[] #[]] 114)).cell? ⟨w.heap.size, 14, none⟩ = some (.int .i64 e) := hh.box2 _ 14
      clear hh hw
      go_wp2_with fail
      refine (K3.out _).mono ?_
      rintro x w2 ⟨rfl, hb⟩
      have q0 : w2.cell? ⟨wr.heap.size, 0, none⟩ = some (.int .i64 6) := round_cell hb 0
      have HE := Lib.hid (HD.out.step hb)
      clear hb t0 t1 c0 c1 c2 c3 c4 c5 c6 c7 c8 c9 c10 c11 c12 c13 c14
      cases hd : decide (p.m ≠ 4) with
      | true =>
        have hr : whyOf k p e = 6 := by rw [← HW.out]; show (if decide (p.m ≠ 4) = true then (6 : Int) else _) = _; rw [hd, if_pos rfl]
        have HR := Lib.hid hr
        clear hr hd HW
        go_wp2
        go_ret
        exact ⟨by rw [HR.out]; rfl, HE.out.low⟩
      | false =>
        have hr : whyL ((tests k p e).drop 3) = whyOf k p e := by rw [← HW.out]; show _ = (if decide (p.m ≠ 4) = true then (6 : Int) else _); rw [hd, if_neg (by decide)]; rfl
        have HR := Lib.hid hr
        clear hr hd HW
        go_wp2
        go_roundw
        case rel => exact ⟨3, by omega, by go_num, HE.out, HR.out⟩
        case measure => simp [intOf]
    · have HD := Lib.hid hh
      have HW := Lib.hid hw
      have t0 : wr.cell? ⟨w.heap.size + 1, 6, none⟩ = some (.int .i64 7) := hh.test 6
      have t1 : wr.cell? ⟨w.heap.size + 1, 7, none⟩ = some (.func (.func 82) #[] #[]) := hh.test 7
      have c0 : (wr.alloc (.cells #[.int .i64 7, .func (.func 82) #[] #[]] 114)).cell? ⟨w.heap.size, 0, none⟩ = some (.int .u64 k) := hh.box2 _ 0; have c1 : (wr.alloc (.cells #[.int .i64 7, .func (.func 82) #[] #[]] 114)).cell? ⟨w.heap.size, 1, none⟩ = some (.int .u8 p.l) := hh.box2 _ 1; have c2 : (wr.alloc (.cells #[.int .i64 7, .func (.func 82) #[] #[]] 114)).cell? ⟨w.heap.size, 2, none⟩ = some (.int .u8 p.v) := hh.box2 _ 2; have c3 : (wr.alloc (.cells #[.int .i64 7, .func (.func 82) #[] #[]] 114)).cell? ⟨w.heap.size, 3, none⟩ = some (.int .u8 p.m) := hh.box2 _ 3; have c4 : (wr.alloc (.cells #[.int .i64 7, .func (.func 82) #[] #[]] 114)).cell? ⟨w.heap.size, 4, none⟩ = some (.int .u8 p.s) := hh.box2 _ 4; have c5 : (wr.alloc (.cells #[.int .i64 7, .func (.func 82) #[] #[]] 114)).cell? ⟨w.heap.size, 5, none⟩ = some (.int .i8 p.po) := hh.box2 _ 5; have c6 : (wr.alloc (.cells #[.int .i64 7, .func (.func 82) #[] #[]] 114)).cell? ⟨w.heap.size, 6, none⟩ = some (.int .i8 p.pr) := hh.box2 _ 6; have c7 : (wr.alloc (.cells #[.int .i64 7, .func (.func 82) #[] #[]] 114)).cell? ⟨w.heap.size, 7, none⟩ = some (.int .u32 p.de) := hh.box2 _ 7; have c8 : (wr.alloc (.cells #[.int .i64 7, .func (.func 82) #[] #[]] 114)).cell? ⟨w.heap.size, 8, none⟩ = some (.int .u32 p.di) := hh.box2 _ 8; have c9 : (wr.alloc (.cells #[.int .i64 7, .func (.func 82) #[] #[]] 114)).cell? ⟨w.heap.size, 9, none⟩ = some (.int .u32 p.rs) := hh.box2 _ 9; have c10 : (wr.alloc (.cells #[.int .i64 7, .func (.func 82) #[] #[]] 114)).cell? ⟨w.heap.size, 10, none⟩ = some (.int .u64 p.rf) := hh.box2 _ 10; have c11 : (wr.alloc (.cells #[.int .i64 7, .func (.func 82) #[] #[]] 114)).cell? ⟨w.heap.size, 11, none⟩ = some (.int .u64 p.og) := hh.box2 _ 11; have c12 : (wr.alloc (.cells #[.int .i64 7, .func (.func 82) #[] #[]] 114)).cell? ⟨w.heap.size, 12, none⟩ = some (.int .u64 p.rc) := hh.box2 _ 12; have c13 : (wr.alloc (.cells #[.int .i64 7, .func (.func 82) #[] #[]] 114)).cell? ⟨w.heap.size, 13, none⟩ = some (.int .u64 p.xm) := hh.box2 _ 13; have c14 : (wr.alloc (.cells #[.int .i64 7, .func (.func 82) #[] #[]] 114)).cell? ⟨w.heap.size, 14, none⟩ = some (.int .i64 e) := hh.box2 _ 14
      clear hh hw
      go_wp2_with fail
      refine (K4.out _).mono ?_
      rintro x w2 ⟨rfl, hb⟩
      have q0 : w2.cell? ⟨wr.heap.size, 0, none⟩ = some (.int .i64 7) := round_cell hb 0
      have HE := Lib.hid (HD.out.step hb)
      clear hb t0 t1 c0 c1 c2 c3 c4 c5 c6 c7 c8 c9 c10 c11 c12 c13 c14
      cases hd : decide (k = 0 ∨ p.og ≠ k) with
      | true =>
        have hr : whyOf k p e = 7 := by rw [← HW.out]; show (if decide (k = 0 ∨ p.og ≠ k) = true then (7 : Int) else _) = _; rw [hd, if_pos rfl]
        have HR := Lib.hid hr
        clear hr hd HW
        go_wp2
        go_ret
        exact ⟨by rw [HR.out]; rfl, HE.out.low⟩
      | false =>
        have hr : whyL ((tests k p e).drop 4) = whyOf k p e := by rw [← HW.out]; show _ = (if decide (k = 0 ∨ p.og ≠ k) = true then (7 : Int) else _); rw [hd, if_neg (by decide)]; rfl
        have HR := Lib.hid hr
        clear hr hd HW
        go_wp2
        go_roundw
        case rel => exact ⟨4, by omega, by go_num, HE.out, HR.out⟩
        case measure => simp [intOf]
    · have HD := Lib.hid hh
      have HW := Lib.hid hw
      have t0 : wr.cell? ⟨w.heap.size + 1, 8, none⟩ = some (.int .i64 8) := hh.test 8
      have t1 : wr.cell? ⟨w.heap.size + 1, 9, none⟩ = some (.func (.func 83) #[] #[]) := hh.test 9
      have c0 : (wr.alloc (.cells #[.int .i64 8, .func (.func 83) #[] #[]] 114)).cell? ⟨w.heap.size, 0, none⟩ = some (.int .u64 k) := hh.box2 _ 0; have c1 : (wr.alloc (.cells #[.int .i64 8, .func (.func 83) #[] #[]] 114)).cell? ⟨w.heap.size, 1, none⟩ = some (.int .u8 p.l) := hh.box2 _ 1; have c2 : (wr.alloc (.cells #[.int .i64 8, .func (.func 83) #[] #[]] 114)).cell? ⟨w.heap.size, 2, none⟩ = some (.int .u8 p.v) := hh.box2 _ 2; have c3 : (wr.alloc (.cells #[.int .i64 8, .func (.func 83) #[] #[]] 114)).cell? ⟨w.heap.size, 3, none⟩ = some (.int .u8 p.m) := hh.box2 _ 3; have c4 : (wr.alloc (.cells #[.int .i64 8, .func (.func 83) #[] #[]] 114)).cell? ⟨w.heap.size, 4, none⟩ = some (.int .u8 p.s) := hh.box2 _ 4; have c5 : (wr.alloc (.cells #[.int .i64 8, .func (.func 83) #[] #[]] 114)).cell? ⟨w.heap.size, 5, none⟩ = some (.int .i8 p.po) := hh.box2 _ 5; have c6 : (wr.alloc (.cells #[.int .i64 8, .func (.func 83) #[] #[]] 114)).cell? ⟨w.heap.size, 6, none⟩ = some (.int .i8 p.pr) := hh.box2 _ 6; have c7 : (wr.alloc (.cells #[.int .i64 8, .func (.func 83) #[] #[]] 114)).cell? ⟨w.heap.size, 7, none⟩ = some (.int .u32 p.de) := hh.box2 _ 7; have c8 : (wr.alloc (.cells #[.int .i64 8, .func (.func 83) #[] #[]] 114)).cell? ⟨w.heap.size, 8, none⟩ = some (.int .u32 p.di) := hh.box2 _ 8; have c9 : (wr.alloc (.cells #[.int .i64 8, .func (.func 83) #[] #[]] 114)).cell? ⟨w.heap.size, 9, none⟩ = some (.int .u32 p.rs) := hh.box2 _ 9; have c10 : (wr.alloc (.cells #[.int .i64 8, .func (.func 83) #[] #[]] 114)).cell? ⟨w.heap.size, 10, none⟩ = some (.int .u64 p.rf) := hh.box2 _ 10; have c11 : (wr.alloc (.cells #[.int .i64 8, .func (.func 83) #[] #[]] 114)).cell? ⟨w.heap.size, 11, none⟩ = some (.int .u64 p.og) := hh.box2 _ 11; have c12 : (wr.alloc (.cells #[.int .i64 8, .func (.func 83) #[] #[]] 114)).cell? ⟨w.heap.size, 12, none⟩ = some (.int .u64 p.rc) := hh.box2 _ 12; have c13 : (wr.alloc (.cells #[.int .i64 8, .func (.func 83) #[] #[]] 114)).cell? ⟨w.heap.size, 13, none⟩ = some (.int .u64 p.xm) := hh.box2 _ 13; have c14 : (wr.alloc (.cells #[.int .i64 8, .func (.func 83) #[] #[]] 114)).cell? ⟨w.heap.size, 14, none⟩ = some (.int .i64 e) := hh.box2 _ 14
      clear hh hw
      go_wp2_with fail
      refine (K5.out _).mono ?_
      rintro x w2 ⟨rfl, hb⟩
      have q0 : w2.cell? ⟨wr.heap.size, 0, none⟩ = some (.int .i64 8) := round_cell hb 0
      have HE := Lib.hid (HD.out.step hb)
      clear hb t0 t1 c0 c1 c2 c3 c4 c5 c6 c7 c8 c9 c10 c11 c12 c13 c14
      cases hd : decide (p.s = 0) with
      | true =>
        have hr : whyOf k p e = 8 := by rw [← HW.out]; show (if decide (p.s = 0) = true then (8 : Int) else _) = _; rw [hd, if_pos rfl]
        have HR := Lib.hid hr
        clear hr hd HW
        go_wp2
        go_ret
        exact ⟨by rw [HR.out]; rfl, HE.out.low⟩
      | false =>
        have hr : whyL ((tests k p e).drop 5) = whyOf k p e := by rw [← HW.out]; show _ = (if decide (p.s = 0) = true then (8 : Int) else _); rw [hd, if_neg (by decide)]; rfl
        have HR := Lib.hid hr
        clear hr hd HW
        go_wp2
        go_roundw
        case rel => exact ⟨5, by omega, by go_num, HE.out, HR.out⟩
        case measure => simp [intOf]
    · have HD := Lib.hid hh
      have HW := Lib.hid hw
      have t0 : wr.cell? ⟨w.heap.size + 1, 10, none⟩ = some (.int .i64 9) := hh.test 10
      have t1 : wr.cell? ⟨w.heap.size + 1, 11, none⟩ = some (.func (.func 84) #[] #[]) := hh.test 11
      have c0 : (wr.alloc (.cells #[.int .i64 9, .func (.func 84) #[] #[]] 114)).cell? ⟨w.heap.size, 0, none⟩ = some (.int .u64 k) := hh.box2 _ 0; have c1 : (wr.alloc (.cells #[.int .i64 9, .func (.func 84) #[] #[]] 114)).cell? ⟨w.heap.size, 1, none⟩ = some (.int .u8 p.l) := hh.box2 _ 1; have c2 : (wr.alloc (.cells #[.int .i64 9, .func (.func 84) #[] #[]] 114)).cell? ⟨w.heap.size, 2, none⟩ = some (.int .u8 p.v) := hh.box2 _ 2; have c3 : (wr.alloc (.cells #[.int .i64 9, .func (.func 84) #[] #[]] 114)).cell? ⟨w.heap.size, 3, none⟩ = some (.int .u8 p.m) := hh.box2 _ 3; have c4 : (wr.alloc (.cells #[.int .i64 9, .func (.func 84) #[] #[]] 114)).cell? ⟨w.heap.size, 4, none⟩ = some (.int .u8 p.s) := hh.box2 _ 4; have c5 : (wr.alloc (.cells #[.int .i64 9, .func (.func 84) #[] #[]] 114)).cell? ⟨w.heap.size, 5, none⟩ = some (.int .i8 p.po) := hh.box2 _ 5; have c6 : (wr.alloc (.cells #[.int .i64 9, .func (.func 84) #[] #[]] 114)).cell? ⟨w.heap.size, 6, none⟩ = some (.int .i8 p.pr) := hh.box2 _ 6; have c7 : (wr.alloc (.cells #[.int .i64 9, .func (.func 84) #[] #[]] 114)).cell? ⟨w.heap.size, 7, none⟩ = some (.int .u32 p.de) := hh.box2 _ 7; have c8 : (wr.alloc (.cells #[.int .i64 9, .func (.func 84) #[] #[]] 114)).cell? ⟨w.heap.size, 8, none⟩ = some (.int .u32 p.di) := hh.box2 _ 8; have c9 : (wr.alloc (.cells #[.int .i64 9, .func (.func 84) #[] #[]] 114)).cell? ⟨w.heap.size, 9, none⟩ = some (.int .u32 p.rs) := hh.box2 _ 9; have c10 : (wr.alloc (.cells #[.int .i64 9, .func (.func 84) #[] #[]] 114)).cell? ⟨w.heap.size, 10, none⟩ = some (.int .u64 p.rf) := hh.box2 _ 10; have c11 : (wr.alloc (.cells #[.int .i64 9, .func (.func 84) #[] #[]] 114)).cell? ⟨w.heap.size, 11, none⟩ = some (.int .u64 p.og) := hh.box2 _ 11; have c12 : (wr.alloc (.cells #[.int .i64 9, .func (.func 84) #[] #[]] 114)).cell? ⟨w.heap.size, 12, none⟩ = some (.int .u64 p.rc) := hh.box2 _ 12; have c13 : (wr.alloc (.cells #[.int .i64 9, .func (.func 84) #[] #[]] 114)).cell? ⟨w.heap.size, 13, none⟩ = some (.int .u64 p.xm) := hh.box2 _ 13; have c14 : (wr.alloc (.cells #[.int .i64 9, .func (.func 84) #[] #[]] 114)).cell? ⟨w.heap.size, 14, none⟩ = some (.int .i64 e) := hh.box2 _ 14
      clear hh hw
      go_wp2_with fail
      refine (K6.out _).mono ?_
      rintro x w2 ⟨rfl, hb⟩
      have q0 : w2.cell? ⟨wr.heap.size, 0, none⟩ = some (.int .i64 9) := round_cell hb 0
      have HE := Lib.hid (HD.out.step hb)
      clear hb t0 t1 c0 c1 c2 c3 c4 c5 c6 c7 c8 c9 c10 c11 c12 c13 c14
      cases hd : decide (p.l = 3) with
      | true =>
        have hr : whyOf k p e = 9 := by rw [← HW.out]; show (if decide (p.l = 3) = true then (9 : Int) else _) = _; rw [hd, if_pos rfl]
        have HR := Lib.hid hr
        clear hr hd HW
        go_wp2
        go_ret
        exact ⟨by rw [HR.out]; rfl, HE.out.low⟩
      | false =>
        have hr : whyL ((tests k p e).drop 6) = whyOf k p e := by rw [← HW.out]; show _ = (if decide (p.l = 3) = true then (9 : Int) else _); rw [hd, if_neg (by decide)]; rfl
        have HR := Lib.hid hr
        clear hr hd HW
        go_wp2
        go_roundw
        case rel => exact ⟨6, by omega, by go_num, HE.out, HR.out⟩
        case measure => simp [intOf]
    · have HD := Lib.hid hh
      have HW := Lib.hid hw
      have t0 : wr.cell? ⟨w.heap.size + 1, 12, none⟩ = some (.int .i64 10) := hh.test 12
      have t1 : wr.cell? ⟨w.heap.size + 1, 13, none⟩ = some (.func (.func 85) #[] #[]) := hh.test 13
      have c0 : (wr.alloc (.cells #[.int .i64 10, .func (.func 85) #[] #[]] 114)).cell? ⟨w.heap.size, 0, none⟩ = some (.int .u64 k) := hh.box2 _ 0; have c1 : (wr.alloc (.cells #[.int .i64 10, .func (.func 85) #[] #[]] 114)).cell? ⟨w.heap.size, 1, none⟩ = some (.int .u8 p.l) := hh.box2 _ 1; have c2 : (wr.alloc (.cells #[.int .i64 10, .func (.func 85) #[] #[]] 114)).cell? ⟨w.heap.size, 2, none⟩ = some (.int .u8 p.v) := hh.box2 _ 2; have c3 : (wr.alloc (.cells #[.int .i64 10, .func (.func 85) #[] #[]] 114)).cell? ⟨w.heap.size, 3, none⟩ = some (.int .u8 p.m) := hh.box2 _ 3; have c4 : (wr.alloc (.cells #[.int .i64 10, .func (.func 85) #[] #[]] 114)).cell? ⟨w.heap.size, 4, none⟩ = some (.int .u8 p.s) := hh.box2 _ 4; have c5 : (wr.alloc (.cells #[.int .i64 10, .func (.func 85) #[] #[]] 114)).cell? ⟨w.heap.size, 5, none⟩ = some (.int .i8 p.po) := hh.box2 _ 5; have c6 : (wr.alloc (.cells #[.int .i64 10, .func (.func 85) #[] #[]] 114)).cell? ⟨w.heap.size, 6, none⟩ = some (.int .i8 p.pr) := hh.box2 _ 6; have c7 : (wr.alloc (.cells #[.int .i64 10, .func (.func 85) #[] #[]] 114)).cell? ⟨w.heap.size, 7, none⟩ = some (.int .u32 p.de) := hh.box2 _ 7; have c8 : (wr.alloc (.cells #[.int .i64 10, .func (.func 85) #[] #[]] 114)).cell? ⟨w.heap.size, 8, none⟩ = some (.int .u32 p.di) := hh.box2 _ 8; have c9 : (wr.alloc (.cells #[.int .i64 10, .func (.func 85) #[] #[]] 114)).cell? ⟨w.heap.size, 9, none⟩ = some (.int .u32 p.rs) := hh.box2 _ 9; have c10 : (wr.alloc (.cells #[.int .i64 10, .func (.func 85) #[] #[]] 114)).cell? ⟨w.heap.size, 10, none⟩ = some (.int .u64 p.rf) := hh.box2 _ 10; have c11 : (wr.alloc (.cells #[.int .i64 10, .func (.func 85) #[] #[]] 114)).cell? ⟨w.heap.size, 11, none⟩ = some (.int .u64 p.og) := hh.box2 _ 11; have c12 : (wr.alloc (.cells #[.int .i64 10, .func (.func 85) #[] #[]] 114)).cell? ⟨w.heap.size, 12, none⟩ = some (.int .u64 p.rc) := hh.box2 _ 12; have c13 : (wr.alloc (.cells #[.int .i64 10, .func (.func 85) #[] #[]] 114)).cell? ⟨w.heap.size, 13, none⟩ = some (.int .u64 p.xm) := hh.box2 _ 13; have c14 : (wr.alloc (.cells #[.int .i64 10, .func (.func 85) #[] #[]] 114)).cell? ⟨w.heap.size, 14, none⟩ = some (.int .i64 e) := hh.box2 _ 14
      clear hh hw
      go_wp2_with fail
      refine (K7.out _).mono ?_
      rintro x w2 ⟨rfl, hb⟩
      have q0 : w2.cell? ⟨wr.heap.size, 0, none⟩ = some (.int .i64 10) := round_cell hb 0
      have HE := Lib.hid (HD.out.step hb)
      clear hb t0 t1 c0 c1 c2 c3 c4 c5 c6 c7 c8 c9 c10 c11 c12 c13 c14
      cases hd : decide (15 < p.s) with
      | true =>
        have hr : whyOf k p e = 10 := by rw [← HW.out]; show (if decide (15 < p.s) = true then (10 : Int) else _) = _; rw [hd, if_pos rfl]
        have HR := Lib.hid hr
        clear hr hd HW
        go_wp2
        go_ret
        exact ⟨by rw [HR.out]; rfl, HE.out.low⟩
      | false =>
        have hr : whyL ((tests k p e).drop 7) = whyOf k p e := by rw [← HW.out]; show _ = (if decide (15 < p.s) = true then (10 : Int) else _); rw [hd, if_neg (by decide)]; rfl
        have HR := Lib.hid hr
        clear hr hd HW
        go_wp2
        go_roundw
        case rel => exact ⟨7, by omega, by go_num, HE.out, HR.out⟩
        case measure => simp [intOf]
    · have HD := Lib.hid hh
      have HW := Lib.hid hw
      have t0 : wr.cell? ⟨w.heap.size + 1, 14, none⟩ = some (.int .i64 11) := hh.test 14
      have t1 : wr.cell? ⟨w.heap.size + 1, 15, none⟩ = some (.func (.func 86) #[] #[]) := hh.test 15
      have c0 : (wr.alloc (.cells #[.int .i64 11, .func (.func 86) #[] #[]] 114)).cell? ⟨w.heap.size, 0, none⟩ = some (.int .u64 k) := hh.box2 _ 0; have c1 : (wr.alloc (.cells #[.int .i64 11, .func (.func 86) #[] #[]] 114)).cell? ⟨w.heap.size, 1, none⟩ = some (.int .u8 p.l) := hh.box2 _ 1; have c2 : (wr.alloc (.cells #[.int .i64 11, .func (.func 86) #[] #[]] 114)).cell? ⟨w.heap.size, 2, none⟩ = some (.int .u8 p.v) := hh.box2 _ 2; have c3 : (wr.alloc (.cells #[.int .i64 11, .func (.func 86) #[] #[]] 114)).cell? ⟨w.heap.size, 3, none⟩ = some (.int .u8 p.m) := hh.box2 _ 3; have c4 : (wr.alloc (.cells #[.int .i64 11, .func (.func 86) #[] #[]] 114)).cell? ⟨w.heap.size, 4, none⟩ = some (.int .u8 p.s) := hh.box2 _ 4; have c5 : (wr.alloc (.cells #[.int .i64 11, .func (.func 86) #[] #[]] 114)).cell? ⟨w.heap.size, 5, none⟩ = some (.int .i8 p.po) := hh.box2 _ 5; have c6 : (wr.alloc (.cells #[.int .i64 11, .func (.func 86) #[] #[]] 114)).cell? ⟨w.heap.size, 6, none⟩ = some (.int .i8 p.pr) := hh.box2 _ 6; have c7 : (wr.alloc (.cells #[.int .i64 11, .func (.func 86) #[] #[]] 114)).cell? ⟨w.heap.size, 7, none⟩ = some (.int .u32 p.de) := hh.box2 _ 7; have c8 : (wr.alloc (.cells #[.int .i64 11, .func (.func 86) #[] #[]] 114)).cell? ⟨w.heap.size, 8, none⟩ = some (.int .u32 p.di) := hh.box2 _ 8; have c9 : (wr.alloc (.cells #[.int .i64 11, .func (.func 86) #[] #[]] 114)).cell? ⟨w.heap.size, 9, none⟩ = some (.int .u32 p.rs) := hh.box2 _ 9; have c10 : (wr.alloc (.cells #[.int .i64 11, .func (.func 86) #[] #[]] 114)).cell? ⟨w.heap.size, 10, none⟩ = some (.int .u64 p.rf) := hh.box2 _ 10; have c11 : (wr.alloc (.cells #[.int .i64 11, .func (.func 86) #[] #[]] 114)).cell? ⟨w.heap.size, 11, none⟩ = some (.int .u64 p.og) := hh.box2 _ 11; have c12 : (wr.alloc (.cells #[.int .i64 11, .func (.func 86) #[] #[]] 114)).cell? ⟨w.heap.size, 12, none⟩ = some (.int .u64 p.rc) := hh.box2 _ 12; have c13 : (wr.alloc (.cells #[.int .i64 11, .func (.func 86) #[] #[]] 114)).cell? ⟨w.heap.size, 13, none⟩ = some (.int .u64 p.xm) := hh.box2 _ 13; have c14 : (wr.alloc (.cells #[.int .i64 11, .func (.func 86) #[] #[]] 114)).cell? ⟨w.heap.size, 14, none⟩ = some (.int .i64 e) := hh.box2 _ 14
      clear hh hw
      go_wp2_with fail
      refine (K8.out _).mono ?_
      rintro x w2 ⟨rfl, hb⟩
      have q0 : w2.cell? ⟨wr.heap.size, 0, none⟩ = some (.int .i64 11) := round_cell hb 0
      have HE := Lib.hid (HD.out.step hb)
      clear hb t0 t1 c0 c1 c2 c3 c4 c5 c6 c7 c8 c9 c10 c11 c12 c13 c14
      cases hd : decide (p.rc = 0 ∨ p.xm = 0) with
      | true =>
        have hr : whyOf k p e = 11 := by rw [← HW.out]; show (if decide (p.rc = 0 ∨ p.xm = 0) = true then (11 : Int) else _) = _; rw [hd, if_pos rfl]
        have HR := Lib.hid hr
        clear hr hd HW
        go_wp2
        go_ret
        exact ⟨by rw [HR.out]; rfl, HE.out.low⟩
      | false =>
        have hr : whyL ((tests k p e).drop 8) = whyOf k p e := by rw [← HW.out]; show _ = (if decide (p.rc = 0 ∨ p.xm = 0) = true then (11 : Int) else _); rw [hd, if_neg (by decide)]; rfl
        have HR := Lib.hid hr
        clear hr hd HW
        go_wp2
        go_roundw
        case rel => exact ⟨8, by omega, by go_num, HE.out, HR.out⟩
        case measure => simp [intOf]
    · have hr : whyOf k p e = 0 := hw.symm
      have HR := Lib.hid hr
      have HD := Lib.hid hh
      clear hh hw hr
      go_wp2
      go_ret
      exact ⟨by rw [HR.out]; rfl, HD.out.low⟩
end Go.Proofs.Ytfknefpfekjnnaa
