/- SampleSlews' walk. -/
import Derived.Test.YtanoaelgaabmgaaNear
import Derived.Test.YtanoaelgaabmgaaBox
import Derived.Lib.QuietBelow
import Derived.BigQuiet
namespace Go.Proofs.Ytanoaelgaabmgaa
open Go.RowKit

set_option maxRecDepth 100000 in
set_option maxHeartbeats 2000000 in
theorem walk_slews (x d t y b m : Int) (w : World) (b1 : -2147483648 ≤ b) (b2 : b ≤ 2147483647) (m1 : -2147483648 ≤ m) (m2 : m ≤ 2147483647) :
    Calls Try.prog 7 #[.agg #[.int .i64 x, .int .i64 d, .int .i64 t, .int .i64 y], .int .i32 b, .int .i32 m] w fun e w' => e = .returned (.bool true) ∧ Below w.heap.size w w' := by
  obtain ⟨o, eo, o1, o2⟩ := rem_bd x 1152921504606846976 (by decide)
  obtain ⟨s, es, s1, s2⟩ := rem_bd y 1152921504606846976 (by decide)
  have A := Lib.hid alive_any
  have n0 := (fun w => now_any o d t s (s + b) w (by omega) (by omega) (by omega) (by omega) (by omega) (by omega))
  have n1 := (fun w => now_any o d t s s w (by omega) (by omega) (by omega) (by omega) (by omega) (by omega))
  have n2 := (fun w => now_any o d t s (s + b + m) w (by omega) (by omega) (by omega) (by omega) (by omega) (by omega))
  rw [show nowOf o s (s + b) = o - b by unfold nowOf; rw [stp_in (n := s + b - s) (by omega) (by omega), stp_in (by omega) (by omega)]; omega] at n0
  rw [show nowOf o s s = o by unfold nowOf; rw [stp_in (n := s - s) (by omega) (by omega), stp_in (by omega) (by omega)]; omega] at n1
  rw [show nowOf o s (s + b + m) = o - b - m by unfold nowOf; rw [stp_in (n := s + b + m - s) (by omega) (by omega), stp_in (by omega) (by omega)]; omega] at n2
  have N0 := Lib.hid n0
  have N1 := Lib.hid n1
  have N2 := Lib.hid n2
  clear n0 n1 n2
  go_enter Try.func7, Try.ntmps7
  go_wp2_with fail
  refine (N0.out _).mono ?_
  rintro e w1 ⟨rfl, hg1⟩
  have e0 : w1.cell? ⟨w.heap.size, 0, none⟩ = some (.int .i64 o) := cell_later hg1 (by simp)
  have e1 : w1.cell? ⟨w.heap.size, 1, none⟩ = some (.int .i64 d) := cell_later hg1 (by simp)
  have e2 : w1.cell? ⟨w.heap.size, 2, none⟩ = some (.int .i64 t) := cell_later hg1 (by simp)
  have e3 : w1.cell? ⟨w.heap.size, 3, none⟩ = some (.int .i64 s) := cell_later hg1 (by simp)
  have m0 := fun j os => cell_regrown e0 j os
  have m1 := fun j os => cell_regrown e1 j os
  have m2 := fun j os => cell_regrown e2 j os
  have m3 := fun j os => cell_regrown e3 j os
  clear e0 e1 e2 e3
  have k0 : ∀ k os, Calls Try.prog 13 #[] (Sort.grow (redrawn w1 k) os) fun e w'' => e = .returned (.bool true) ∧ ∃ p : Regrown, w'' = Sort.grow (redrawn w1 p.d) p.os := fun k os => Calls.regrown_of (A.out _)
  have k1 : ∀ k os, Calls Try.prog 14 #[.agg #[.int .i64 o, .int .i64 d, .int .i64 t, .int .i64 s], .int .i64 s] (Sort.grow (redrawn w1 k) os) fun e w'' => e = .returned (.int .i64 o) ∧ ∃ p : Regrown, w'' = Sort.grow (redrawn w1 p.d) p.os := fun k os => Calls.regrown_of (N1.out _)
  have k2 : ∀ k os, Calls Try.prog 14 #[.agg #[.int .i64 o, .int .i64 d, .int .i64 t, .int .i64 s], .int .i64 (s + b + m)] (Sort.grow (redrawn w1 k) os) fun e w'' => e = .returned (.int .i64 (o - b - m)) ∧ ∃ p : Regrown, w'' = Sort.grow (redrawn w1 p.d) p.os := fun k os => Calls.regrown_of (N2.out _)
  have B := Lib.hid (bel_trans (bel_alloc w _) hg1)
  clear hg1
  go_wp2_with fail
  refine wp_region_quiet_below (by kernel_rfl) (by kernel_rfl) ?_
  repeat (go_big_quiet_step (first | with_reducible exact k0 _ _ | with_reducible exact k1 _ _ | with_reducible exact k2 _ _))
  refine wpQuiet_nil ?_
  intro w2 hw'
  have hb2 : Below w1.heap.size w1 w2 := by
    obtain ⟨⟨dq, osq⟩, hw''⟩ := hw'
    rw [hw'']; exact below_regrown w1 dq osq
  clear hw' m0 m1 m2 m3 k0 k1 k2
  go_wp2
  go_ret
  exact ⟨rfl, bel_trans B.out hb2⟩
end Go.Proofs.Ytanoaelgaabmgaa
