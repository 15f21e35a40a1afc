/- For all bytes, all bytes behind them and every cookie the statement SaneBehind returns true: what stands behind the first 48 bytes plays no part, fewer are too short, and of what is refused nothing is told but of a kiss. No condition. -/
import Derived.Test.YtojaliclbfijaaaRows
import Derived.Test.YtojaliclbfijaaaCame
import Derived.Test.YtojaliclbfijaaaOpen
import Derived.WalkKit
import Derived.ProofKit
import Derived.OpenShut
import Derived.ShutString
import Derived.ChangeOld
import Derived.Below
namespace Go.Proofs.Ytojaliclbfijaaa.saneBehind
open Go.ChangeShapes Go.WideShapes Go.ChangeAt Go.RowKit
set_option linter.unusedVariables false

theorem own : ownKnob Try.prog.godebug = none := by kernel_rfl
theorem laidOut : laidOutB Try.prog = true := by kernel_rfl

set_option maxHeartbeats 1000000 in
theorem walk (A0 : Option Addr) (len0 cap0 : Nat) (z0 : List Int) (A1 : Option Addr) (len1 cap1 : Nat) (z1 : List Int) (a2 : Int) (w : World) (hz0 : Bytes w A0 len0 cap0 z0) (hz1 : Bytes w A1 len1 cap1 z1) (w2 : (Lit.int .u64 a2).wf = true) :
    Calls Try.prog 6 #[.slice A0 len0 cap0, .slice A1 len1 cap1, .int .u64 a2] w fun e w' => e = .returned (.bool true) ∧ Below w.heap.size w w' := by
  obtain ⟨b2l, b2u⟩ := bounds_u64 w2
  clear w2
  have KA := Lib.hid alive_any
  have hl0 := hz0.1
  have hl1 := hz1.1
  by_cases h0 : 500 < len0
  · have d0 : decide ((500 : Int) < (len0 : Int)) = true := by simp; omega
    go_enter Try.func6, Try.ntmps6
    go_wp2_with fail
    refine (KA.out _).mono ?_
    rintro e w1 ⟨rfl, hb1⟩
    go_wp2
    go_ret
    exact ⟨rfl, hb1⟩
  have d0 : decide ((500 : Int) < (len0 : Int)) = false := by simp; omega
  by_cases h1 : 500 < len1
  · have d1 : decide ((500 : Int) < (len1 : Int)) = true := by simp; omega
    go_enter Try.func6, Try.ntmps6
    go_wp2_with fail
    refine (KA.out _).mono ?_
    rintro e w1 ⟨rfl, hb1⟩
    go_wp2
    go_ret
    exact ⟨rfl, hb1⟩
  have d1 : decide ((500 : Int) < (len1 : Int)) = false := by simp; omega
  have K1 := Lib.hid (fun w hz => look_any A0 len0 cap0 z0 a2 w hz)
  have K3 := Lib.hid (fun A c w hz => look_any A (len0 + len1) c (([] ++ z0) ++ z1) a2 w hz)
  have HZ0 := Lib.hid hz0
  have HZ1 := Lib.hid hz1
  have HL := Lib.hid (And.intro hl0 hl1)
  have HL2 := Lib.hid (show AllBytes (([] ++ z0) ++ z1) from all_append hz0.2.2.2.1 hz1.2.2.2.1)
  rw [List.nil_append] at K3
  by_cases h48 : len0 < 48
  · have d48 : decide ((len0 : Int) < 48) = true := by simp; omega
    obtain ⟨ep, ey⟩ := look_few a2 z0 (by omega)
    rw [ep, ey] at K1
    obtain ⟨q, eq⟩ : ∃ q, q = lookP a2 (z0 ++ z1) := ⟨_, rfl⟩
    obtain ⟨y2, ey2⟩ : ∃ y2, y2 = lookW a2 (z0 ++ z1) := ⟨_, rfl⟩
    rw [← eq, ← ey2] at K3
    obtain ⟨p, ez⟩ : ∃ p, p = zeroPk := ⟨_, rfl⟩
    rw [← ez] at K1
    have HE := Lib.hid ez
    clear hz0 hz1 ep ey eq ey2 ez hl0 hl1
    go_enter Try.func6, Try.ntmps6
    go_wp2_with fail
    refine (K1.out _ HZ0.out).mono ?_
    rintro e w1 ⟨rfl, hb1⟩
    have s1 := hb1.size
    have O1 := Lib.hid (own_new w1 (.cells #[.int .u8 p.l, .int .u8 p.v, .int .u8 p.m, .int .u8 p.s, .int .i8 p.po, .int .i8 p.pr, .int .u32 p.de, .int .u32 p.di, .int .u32 p.rs, .int .u64 p.rf, .int .u64 p.og, .int .u64 p.rc, .int .u64 p.xm] 27))
    have Z0 := Lib.hid (bytes_below HZ0.out ((hb1.alloc s1 (.cells #[.int .u8 p.l, .int .u8 p.v, .int .u8 p.m, .int .u8 p.s, .int .i8 p.po, .int .i8 p.pr, .int .u32 p.de, .int .u32 p.di, .int .u32 p.rs, .int .u64 p.rf, .int .u64 p.og, .int .u64 p.rc, .int .u64 p.xm] 27)).alloc (by simp; omega) (.cells #[] 5)))
    have Z1 := Lib.hid (bytes_below HZ1.out (hb1.alloc s1 (.cells #[.int .u8 p.l, .int .u8 p.v, .int .u8 p.m, .int .u8 p.s, .int .i8 p.po, .int .i8 p.pr, .int .u32 p.de, .int .u32 p.di, .int .u32 p.rs, .int .u64 p.rf, .int .u64 p.og, .int .u64 p.rc, .int .u64 p.xm] 27)))
    have B1 := Lib.hid hb1
    clear hb1
    go_wp2_with (first | (at_builtin; refine wpList_append_came (a0 := w1.alloc (.cells #[.int .u8 p.l, .int .u8 p.v, .int .u8 p.m, .int .u8 p.s, .int .i8 p.po, .int .i8 p.pr, .int .u32 p.de, .int .u32 p.di, .int .u32 p.rs, .int .u64 p.rf, .int .u64 p.og, .int .u64 p.rc, .int .u64 p.xm] 27)) rfl (.tmp 27) (.tmp 28) rfl (w1.heap.size + 1) _ [] rfl O1.out A0 len0 cap0 z0 rfl Z0.out (by simp only [List.length_nil]; omega) (by simp) ((Below.refl _ _).alloc (by simp) _) ?_; intro v2 w2 hown2 hb2; have O2 := Lib.hid hown2; have B2 := Lib.hid hb2; have s2 : w1.heap.size + 1 ≤ w2.heap.size := (by have := hb2.size; simp at this; omega); clear hown2 hb2) | (at_builtin; refine wpList_append_came (a0 := w1.alloc (.cells #[.int .u8 p.l, .int .u8 p.v, .int .u8 p.m, .int .u8 p.s, .int .i8 p.po, .int .i8 p.pr, .int .u32 p.de, .int .u32 p.di, .int .u32 p.rs, .int .u64 p.rf, .int .u64 p.og, .int .u64 p.rc, .int .u64 p.xm] 27)) rfl (.tmp 29) (.tmp 30) rfl (w1.heap.size + 1) v2 ([] ++ z0) rfl O2.out A1 len1 cap1 z1 rfl (bytes_below Z1.out (B2.out.mono (by simp))) (by rw [List.nil_append, HL.out.1]; omega) s2 B2.out ?_; intro v3 w3 hown3 hb3; obtain ⟨A3, c3, ev3, hz3⟩ := own_bytes (n := len0 + len1) hown3 (by simp [HL.out.1, HL.out.2]) HL2.out; subst ev3; have B3 := Lib.hid hb3; have Z3 := Lib.hid hz3; have s3 : w1.heap.size + 1 ≤ w3.heap.size := (by have := hb3.size; simp at this; omega); clear hown3 hb3 hz3))
    refine (K3.out A3 c3 _ Z3.out).mono ?_
    rintro e w4 ⟨rfl, hb4⟩
    have s4 := hb4.size
    have B4 : Below (w1.heap.size + 1) (w1.alloc (.cells #[.int .u8 p.l, .int .u8 p.v, .int .u8 p.m, .int .u8 p.s, .int .i8 p.po, .int .i8 p.pr, .int .u32 p.de, .int .u32 p.di, .int .u32 p.rs, .int .u64 p.rf, .int .u64 p.og, .int .u64 p.rc, .int .u64 p.xm] 27)) w4 := B3.out.trans (hb4.mono s3)
    have HB4 := Lib.hid B4
    clear hb4
    have c0 : ∀ o, (w4.alloc o).cell? ⟨w1.heap.size, 0, none⟩ = some (.int .u8 p.l) := fun o => (World.cell?_alloc_lt _ _ _ (by show w1.heap.size < w4.heap.size; omega)).trans (box_cell B4 0); have c1 : ∀ o, (w4.alloc o).cell? ⟨w1.heap.size, 1, none⟩ = some (.int .u8 p.v) := fun o => (World.cell?_alloc_lt _ _ _ (by show w1.heap.size < w4.heap.size; omega)).trans (box_cell B4 1); have c2 : ∀ o, (w4.alloc o).cell? ⟨w1.heap.size, 2, none⟩ = some (.int .u8 p.m) := fun o => (World.cell?_alloc_lt _ _ _ (by show w1.heap.size < w4.heap.size; omega)).trans (box_cell B4 2); have c3 : ∀ o, (w4.alloc o).cell? ⟨w1.heap.size, 3, none⟩ = some (.int .u8 p.s) := fun o => (World.cell?_alloc_lt _ _ _ (by show w1.heap.size < w4.heap.size; omega)).trans (box_cell B4 3); have c4 : ∀ o, (w4.alloc o).cell? ⟨w1.heap.size, 4, none⟩ = some (.int .i8 p.po) := fun o => (World.cell?_alloc_lt _ _ _ (by show w1.heap.size < w4.heap.size; omega)).trans (box_cell B4 4); have c5 : ∀ o, (w4.alloc o).cell? ⟨w1.heap.size, 5, none⟩ = some (.int .i8 p.pr) := fun o => (World.cell?_alloc_lt _ _ _ (by show w1.heap.size < w4.heap.size; omega)).trans (box_cell B4 5); have c6 : ∀ o, (w4.alloc o).cell? ⟨w1.heap.size, 6, none⟩ = some (.int .u32 p.de) := fun o => (World.cell?_alloc_lt _ _ _ (by show w1.heap.size < w4.heap.size; omega)).trans (box_cell B4 6); have c7 : ∀ o, (w4.alloc o).cell? ⟨w1.heap.size, 7, none⟩ = some (.int .u32 p.di) := fun o => (World.cell?_alloc_lt _ _ _ (by show w1.heap.size < w4.heap.size; omega)).trans (box_cell B4 7); have c8 : ∀ o, (w4.alloc o).cell? ⟨w1.heap.size, 8, none⟩ = some (.int .u32 p.rs) := fun o => (World.cell?_alloc_lt _ _ _ (by show w1.heap.size < w4.heap.size; omega)).trans (box_cell B4 8); have c9 : ∀ o, (w4.alloc o).cell? ⟨w1.heap.size, 9, none⟩ = some (.int .u64 p.rf) := fun o => (World.cell?_alloc_lt _ _ _ (by show w1.heap.size < w4.heap.size; omega)).trans (box_cell B4 9); have c10 : ∀ o, (w4.alloc o).cell? ⟨w1.heap.size, 10, none⟩ = some (.int .u64 p.og) := fun o => (World.cell?_alloc_lt _ _ _ (by show w1.heap.size < w4.heap.size; omega)).trans (box_cell B4 10); have c11 : ∀ o, (w4.alloc o).cell? ⟨w1.heap.size, 11, none⟩ = some (.int .u64 p.rc) := fun o => (World.cell?_alloc_lt _ _ _ (by show w1.heap.size < w4.heap.size; omega)).trans (box_cell B4 11); have c12 : ∀ o, (w4.alloc o).cell? ⟨w1.heap.size, 12, none⟩ = some (.int .u64 p.xm) := fun o => (World.cell?_alloc_lt _ _ _ (by show w1.heap.size < w4.heap.size; omega)).trans (box_cell B4 12)
    clear B4
    go_wp2_with fail
    refine (KA.out _).mono ?_
    rintro e w5 ⟨rfl, hb5⟩
    have B5 := Lib.hid ((HB4.out.alloc (by omega) _).trans (hb5.mono (by simp; omega)))
    clear hb5 c0 c1 c2 c3 c4 c5 c6 c7 c8 c9 c10 c11 c12
    obtain rfl : p = zeroPk := HE.out
    have r0 : w5.cell? ⟨w1.heap.size, 0, none⟩ = some (.int .u8 0) := box_cell B5.out 0; have r1 : w5.cell? ⟨w1.heap.size, 1, none⟩ = some (.int .u8 0) := box_cell B5.out 1; have r2 : w5.cell? ⟨w1.heap.size, 2, none⟩ = some (.int .u8 0) := box_cell B5.out 2; have r3 : w5.cell? ⟨w1.heap.size, 3, none⟩ = some (.int .u8 0) := box_cell B5.out 3; have r4 : w5.cell? ⟨w1.heap.size, 4, none⟩ = some (.int .i8 0) := box_cell B5.out 4; have r5 : w5.cell? ⟨w1.heap.size, 5, none⟩ = some (.int .i8 0) := box_cell B5.out 5; have r6 : w5.cell? ⟨w1.heap.size, 6, none⟩ = some (.int .u32 0) := box_cell B5.out 6; have r7 : w5.cell? ⟨w1.heap.size, 7, none⟩ = some (.int .u32 0) := box_cell B5.out 7; have r8 : w5.cell? ⟨w1.heap.size, 8, none⟩ = some (.int .u32 0) := box_cell B5.out 8; have r9 : w5.cell? ⟨w1.heap.size, 9, none⟩ = some (.int .u64 0) := box_cell B5.out 9; have r10 : w5.cell? ⟨w1.heap.size, 10, none⟩ = some (.int .u64 0) := box_cell B5.out 10; have r11 : w5.cell? ⟨w1.heap.size, 11, none⟩ = some (.int .u64 0) := box_cell B5.out 11; have r12 : w5.cell? ⟨w1.heap.size, 12, none⟩ = some (.int .u64 0) := box_cell B5.out 12
    go_wp2
    go_ret
    exact ⟨rfl, B1.out.trans ((below_box B5.out).mono s1)⟩
  · have d48 : decide ((len0 : Int) < 48) = false := by simp; omega
    obtain ⟨x0, x1, x2, x3⟩ := look_ways a2 z0 (by omega)
    obtain ⟨ep, ey⟩ := look_append a2 z0 z1 (by omega)
    rw [ep, ey] at K3
    generalize lookP a2 z0 = p at *
    generalize lookW a2 z0 = y at *
    have t0 : decide (0 ≤ y) = true := by simpa using x0
    have t1 : decide (y < 13) = true := by simpa using x1
    have t2 : (y == 1) = false := by simpa using x2
    have HX := Lib.hid x3
    clear hz0 hz1 ep ey x0 x1 x2 x3 hl0 hl1
    go_enter Try.func6, Try.ntmps6
    go_wp2_with fail
    refine (K1.out _ HZ0.out).mono ?_
    rintro e w1 ⟨rfl, hb1⟩
    have s1 := hb1.size
    have O1 := Lib.hid (own_new w1 (.cells #[.int .u8 p.l, .int .u8 p.v, .int .u8 p.m, .int .u8 p.s, .int .i8 p.po, .int .i8 p.pr, .int .u32 p.de, .int .u32 p.di, .int .u32 p.rs, .int .u64 p.rf, .int .u64 p.og, .int .u64 p.rc, .int .u64 p.xm] 27))
    have Z0 := Lib.hid (bytes_below HZ0.out ((hb1.alloc s1 (.cells #[.int .u8 p.l, .int .u8 p.v, .int .u8 p.m, .int .u8 p.s, .int .i8 p.po, .int .i8 p.pr, .int .u32 p.de, .int .u32 p.di, .int .u32 p.rs, .int .u64 p.rf, .int .u64 p.og, .int .u64 p.rc, .int .u64 p.xm] 27)).alloc (by simp; omega) (.cells #[] 5)))
    have Z1 := Lib.hid (bytes_below HZ1.out (hb1.alloc s1 (.cells #[.int .u8 p.l, .int .u8 p.v, .int .u8 p.m, .int .u8 p.s, .int .i8 p.po, .int .i8 p.pr, .int .u32 p.de, .int .u32 p.di, .int .u32 p.rs, .int .u64 p.rf, .int .u64 p.og, .int .u64 p.rc, .int .u64 p.xm] 27)))
    have B1 := Lib.hid hb1
    clear hb1
    go_wp2_with (first | (at_builtin; refine wpList_append_came (a0 := w1.alloc (.cells #[.int .u8 p.l, .int .u8 p.v, .int .u8 p.m, .int .u8 p.s, .int .i8 p.po, .int .i8 p.pr, .int .u32 p.de, .int .u32 p.di, .int .u32 p.rs, .int .u64 p.rf, .int .u64 p.og, .int .u64 p.rc, .int .u64 p.xm] 27)) rfl (.tmp 27) (.tmp 28) rfl (w1.heap.size + 1) _ [] rfl O1.out A0 len0 cap0 z0 rfl Z0.out (by simp only [List.length_nil]; omega) (by simp) ((Below.refl _ _).alloc (by simp) _) ?_; intro v2 w2 hown2 hb2; have O2 := Lib.hid hown2; have B2 := Lib.hid hb2; have s2 : w1.heap.size + 1 ≤ w2.heap.size := (by have := hb2.size; simp at this; omega); clear hown2 hb2) | (at_builtin; refine wpList_append_came (a0 := w1.alloc (.cells #[.int .u8 p.l, .int .u8 p.v, .int .u8 p.m, .int .u8 p.s, .int .i8 p.po, .int .i8 p.pr, .int .u32 p.de, .int .u32 p.di, .int .u32 p.rs, .int .u64 p.rf, .int .u64 p.og, .int .u64 p.rc, .int .u64 p.xm] 27)) rfl (.tmp 29) (.tmp 30) rfl (w1.heap.size + 1) v2 ([] ++ z0) rfl O2.out A1 len1 cap1 z1 rfl (bytes_below Z1.out (B2.out.mono (by simp))) (by rw [List.nil_append, HL.out.1]; omega) s2 B2.out ?_; intro v3 w3 hown3 hb3; obtain ⟨A3, c3, ev3, hz3⟩ := own_bytes (n := len0 + len1) hown3 (by simp [HL.out.1, HL.out.2]) HL2.out; subst ev3; have B3 := Lib.hid hb3; have Z3 := Lib.hid hz3; have s3 : w1.heap.size + 1 ≤ w3.heap.size := (by have := hb3.size; simp at this; omega); clear hown3 hb3 hz3))
    refine (K3.out A3 c3 _ Z3.out).mono ?_
    rintro e w4 ⟨rfl, hb4⟩
    have s4 := hb4.size
    have B4 : Below (w1.heap.size + 1) (w1.alloc (.cells #[.int .u8 p.l, .int .u8 p.v, .int .u8 p.m, .int .u8 p.s, .int .i8 p.po, .int .i8 p.pr, .int .u32 p.de, .int .u32 p.di, .int .u32 p.rs, .int .u64 p.rf, .int .u64 p.og, .int .u64 p.rc, .int .u64 p.xm] 27)) w4 := B3.out.trans (hb4.mono s3)
    have HB4 := Lib.hid B4
    clear hb4
    have c0 : ∀ o, (w4.alloc o).cell? ⟨w1.heap.size, 0, none⟩ = some (.int .u8 p.l) := fun o => (World.cell?_alloc_lt _ _ _ (by show w1.heap.size < w4.heap.size; omega)).trans (box_cell B4 0); have c1 : ∀ o, (w4.alloc o).cell? ⟨w1.heap.size, 1, none⟩ = some (.int .u8 p.v) := fun o => (World.cell?_alloc_lt _ _ _ (by show w1.heap.size < w4.heap.size; omega)).trans (box_cell B4 1); have c2 : ∀ o, (w4.alloc o).cell? ⟨w1.heap.size, 2, none⟩ = some (.int .u8 p.m) := fun o => (World.cell?_alloc_lt _ _ _ (by show w1.heap.size < w4.heap.size; omega)).trans (box_cell B4 2); have c3 : ∀ o, (w4.alloc o).cell? ⟨w1.heap.size, 3, none⟩ = some (.int .u8 p.s) := fun o => (World.cell?_alloc_lt _ _ _ (by show w1.heap.size < w4.heap.size; omega)).trans (box_cell B4 3); have c4 : ∀ o, (w4.alloc o).cell? ⟨w1.heap.size, 4, none⟩ = some (.int .i8 p.po) := fun o => (World.cell?_alloc_lt _ _ _ (by show w1.heap.size < w4.heap.size; omega)).trans (box_cell B4 4); have c5 : ∀ o, (w4.alloc o).cell? ⟨w1.heap.size, 5, none⟩ = some (.int .i8 p.pr) := fun o => (World.cell?_alloc_lt _ _ _ (by show w1.heap.size < w4.heap.size; omega)).trans (box_cell B4 5); have c6 : ∀ o, (w4.alloc o).cell? ⟨w1.heap.size, 6, none⟩ = some (.int .u32 p.de) := fun o => (World.cell?_alloc_lt _ _ _ (by show w1.heap.size < w4.heap.size; omega)).trans (box_cell B4 6); have c7 : ∀ o, (w4.alloc o).cell? ⟨w1.heap.size, 7, none⟩ = some (.int .u32 p.di) := fun o => (World.cell?_alloc_lt _ _ _ (by show w1.heap.size < w4.heap.size; omega)).trans (box_cell B4 7); have c8 : ∀ o, (w4.alloc o).cell? ⟨w1.heap.size, 8, none⟩ = some (.int .u32 p.rs) := fun o => (World.cell?_alloc_lt _ _ _ (by show w1.heap.size < w4.heap.size; omega)).trans (box_cell B4 8); have c9 : ∀ o, (w4.alloc o).cell? ⟨w1.heap.size, 9, none⟩ = some (.int .u64 p.rf) := fun o => (World.cell?_alloc_lt _ _ _ (by show w1.heap.size < w4.heap.size; omega)).trans (box_cell B4 9); have c10 : ∀ o, (w4.alloc o).cell? ⟨w1.heap.size, 10, none⟩ = some (.int .u64 p.og) := fun o => (World.cell?_alloc_lt _ _ _ (by show w1.heap.size < w4.heap.size; omega)).trans (box_cell B4 10); have c11 : ∀ o, (w4.alloc o).cell? ⟨w1.heap.size, 11, none⟩ = some (.int .u64 p.rc) := fun o => (World.cell?_alloc_lt _ _ _ (by show w1.heap.size < w4.heap.size; omega)).trans (box_cell B4 11); have c12 : ∀ o, (w4.alloc o).cell? ⟨w1.heap.size, 12, none⟩ = some (.int .u64 p.xm) := fun o => (World.cell?_alloc_lt _ _ _ (by show w1.heap.size < w4.heap.size; omega)).trans (box_cell B4 12)
    clear B4
    go_wp2_with fail
    refine (KA.out _).mono ?_
    rintro e w5 ⟨rfl, hb5⟩
    have B5 := Lib.hid ((HB4.out.alloc (by omega) _).trans (hb5.mono (by simp; omega)))
    clear hb5 c0 c1 c2 c3 c4 c5 c6 c7 c8 c9 c10 c11 c12
    rcases HX.out with rfl | rfl | ⟨y0, y8, rfl⟩
    · go_wp2
      go_ret
      exact ⟨rfl, B1.out.trans ((below_box B5.out).mono s1)⟩
    · go_wp2
      go_ret
      exact ⟨rfl, B1.out.trans ((below_box B5.out).mono s1)⟩
    · have t3 : (y == 0) = false := by simpa using y0
      have t4 : (y == 8) = false := by simpa using y8
      have r0 : w5.cell? ⟨w1.heap.size, 0, none⟩ = some (.int .u8 0) := box_cell B5.out 0; have r1 : w5.cell? ⟨w1.heap.size, 1, none⟩ = some (.int .u8 0) := box_cell B5.out 1; have r2 : w5.cell? ⟨w1.heap.size, 2, none⟩ = some (.int .u8 0) := box_cell B5.out 2; have r3 : w5.cell? ⟨w1.heap.size, 3, none⟩ = some (.int .u8 0) := box_cell B5.out 3; have r4 : w5.cell? ⟨w1.heap.size, 4, none⟩ = some (.int .i8 0) := box_cell B5.out 4; have r5 : w5.cell? ⟨w1.heap.size, 5, none⟩ = some (.int .i8 0) := box_cell B5.out 5; have r6 : w5.cell? ⟨w1.heap.size, 6, none⟩ = some (.int .u32 0) := box_cell B5.out 6; have r7 : w5.cell? ⟨w1.heap.size, 7, none⟩ = some (.int .u32 0) := box_cell B5.out 7; have r8 : w5.cell? ⟨w1.heap.size, 8, none⟩ = some (.int .u32 0) := box_cell B5.out 8; have r9 : w5.cell? ⟨w1.heap.size, 9, none⟩ = some (.int .u64 0) := box_cell B5.out 9; have r10 : w5.cell? ⟨w1.heap.size, 10, none⟩ = some (.int .u64 0) := box_cell B5.out 10; have r11 : w5.cell? ⟨w1.heap.size, 11, none⟩ = some (.int .u64 0) := box_cell B5.out 11; have r12 : w5.cell? ⟨w1.heap.size, 12, none⟩ = some (.int .u64 0) := box_cell B5.out 12
      go_wp2
      go_ret
      exact ⟨rfl, B1.out.trans ((below_box B5.out).mono s1)⟩

set_option maxRecDepth 100000 in
theorem lifted (os : Os) (started : os.Started) (H : Type) (enc : TypeId × Value → H) :
    ReturnsInHanded {} Try.checked os 6 .any (Rows.saneBehindSpec.pre6 enc Try.prog Try.f6 Rows.saneBehindRow.domain false) (Rows.saneBehindSpec.post enc Try.prog Try.f6 false true false false) := by
  refine returnsInHanded_of_change (C := Try.checked) own started (by kernel_rfl) Try.func6
    (ChangeSpec.witness6 (enc := enc) (C := Try.checked) false ⟨#[], #[.slice none 0 0, .slice none 0 0, .int .u64 0], []⟩ 8 (by kernel_rfl) (by kernel_rfl) (by kernel_rfl) (by kernel_rfl)) ?_
  intro W base args ds gs before hval0 hW hcnd _
  have hval : ∀ (j : Nat) t v, Try.f6.params[j]? = some t → args[j]? = some v → Value.okWide Try.prog W .any base t v := hval0
  have hW' := hW
  obtain ⟨p, q, hA0, hV, rfl, hfz, hnd⟩ := hW
  have hA : DataW.TrodAll enc Try.prog W 0 (fun _ => true) true Try.f6.params.toList args.toList ds p := hA0
  rw [Try.params6] at hA hval
  obtain ⟨v0, vs0, d0, ds0, p0, q0, hargs, rfl, rfl, h0, r0⟩ := trodAll_cons hA
  obtain ⟨v1, vs1, d1, ds1, p1, q1, rfl, rfl, rfl, h1, r1⟩ := trodAll_cons r0
  obtain ⟨v2, vs2, d2, ds2, p2, q2, rfl, rfl, rfl, h2, r2⟩ := trodAll_cons r1
  obtain ⟨rfl, rfl, rfl⟩ := trodAll_nil r2
  obtain rfl : args = #[v0, v1, v2] := by cases args; simp_all
  obtain ⟨rfl, rfl⟩ := trodVars_none hV
  have k0 := h0
  have lt0 : ∀ x ∈ p0, x.block < W.heap.size := by obtain ⟨m, hm⟩ := k0; exact DataW.trod_lt m _ _ _ hm
  obtain ⟨A0, len0, cap0, rfl⟩ := okWide_slice Try.underlying22 (hval 0 22 v0 rfl rfl)
  obtain ⟨z0, hz0⟩ := open_bytes h0
  have k1 := h1
  have lt1 : ∀ x ∈ p1, x.block < W.heap.size := by obtain ⟨m, hm⟩ := k1; exact DataW.trod_lt m _ _ _ hm
  obtain ⟨A1, len1, cap1, rfl⟩ := okWide_slice Try.underlying22 (hval 1 22 v1 rfl rfl)
  obtain ⟨z1, hz1⟩ := open_bytes h1
  obtain ⟨a2, rfl, rfl, rfl, w2⟩ := open_int Try.underlying23 (hval 2 23 v2 rfl rfl) h2
  clear hA0 hval0
  refine (walk A0 len0 cap0 z0 A1 len1 cap1 z1 a2 W hz0 hz1 w2).mono fun e W' ⟨he, bel⟩ => ?_
  subst he
  exact ⟨_, rfl, _, _, _, [], _, [], hW', trodAll_mk1 (shut_bool Try.underlying4 _), (trodAll_cons_mk (Below.trod laidOut (by kernel_rfl) (of_decide_eq_true (by kernel_rfl)) k0 bel lt0) (trodAll_cons_mk (Below.trod laidOut (by kernel_rfl) (of_decide_eq_true (by kernel_rfl)) k1 bel lt1) (trodAll_cons_mk (shut_int Try.underlying23 w2) trodAll_mk0))), rfl, bel.frame _, fun h => by cases h⟩

theorem over : Rows.saneBehindRow.holds Try.pinned (OpenSpec.ofChange Rows.saneBehindSpec) :=
  OpenClaim.holds_of_wide 6 Try.f6 rfl rfl rfl rfl rfl rfl rfl ⟨rfl, rfl, rfl, rfl, rfl⟩ rfl rfl rfl rfl rfl (by kernel_rfl) Try.func6 (by kernel_rfl)
    (of_decide_eq_true (by kernel_rfl)) (by unfold Func.isWrapper; first | (rw [if_pos (by decide +kernel)]; kernel_rfl) | (rw [if_neg (by decide +kernel)]; exact ⟨rfl, rfl⟩))
    (fun os started H enc _ => lifted os started H enc)

theorem proved : Rows.SaneBehindSaid :=
  over
#print axioms proved
end Go.Proofs.Ytojaliclbfijaaa.saneBehind
