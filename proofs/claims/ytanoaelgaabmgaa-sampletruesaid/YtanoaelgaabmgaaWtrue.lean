/- SampleTrue's walk. -/
import Derived.Test.YtanoaelgaabmgaaNear
import Derived.Test.YtanoaelgaabmgaaBox
import Derived.BigQuiet
namespace Go.Proofs.Ytanoaelgaabmgaa
open Go.RowKit

theorem half_near (n : Int) : ∃ m, n.tdiv 2 = m ∧ n - 1 ≤ 2 * m ∧ 2 * m ≤ n + 1 := by
  refine ⟨_, rfl, ?_⟩
  by_cases h : n < 0
  · rw [tdiv2_neg n h]; omega
  · rw [Int.tdiv_eq_ediv_of_nonneg (by omega)]; omega

set_option maxRecDepth 100000 in
set_option maxHeartbeats 2000000 in
theorem walk_true (x y a b c : Int) (w : World) (a1 : 0 ≤ a) (a2 : a ≤ 4294967295) (b1 : 0 ≤ b) (b2 : b ≤ 4294967295) (c1 : 0 ≤ c) (c2 : c ≤ 4294967295) :
    Calls Try.prog 5 #[.int .i64 x, .int .i64 y, .agg #[.int .u32 a, .int .u32 b, .int .u32 c]] w fun e w' => e = .returned (.bool true) ∧ Below w.heap.size w w' := by
  obtain ⟨r, er, r1, r2⟩ := rem_bd x 576460752303423488 (by decide)
  obtain ⟨q, eq, q1, q2⟩ := rem_bd y 576460752303423488 (by decide)
  obtain ⟨m, em, m1, m2⟩ := half_near (a - c)
  have F0 := Lib.hid (fun w => from_any (q + a) w (by omega) (by omega))
  have F1 := Lib.hid (fun w => from_any (q + a + b) w (by omega) (by omega))
  have M := Lib.hid (fun w => make_any (q - r) (q + a + b + c - r) (frm (q + a)) (frm (q + a + b)) w (by omega) (by omega) (by omega) (by omega))
  have A := Lib.hid alive_any
  obtain ⟨u1, u2⟩ := offs_near (q - r) (q + a + b + c - r) (q + a) (q + a + b) (by omega) (by omega) (by omega) (by omega)
  obtain ⟨v1, v2⟩ := tooks_near (q - r) (q + a + b + c - r) (q + a) (q + a + b) (by omega) (by omega) (by omega)
  generalize offs (q - r) (q + a + b + c - r) (frm (q + a)) (frm (q + a + b)) = u at *
  generalize tooks (q - r) (q + a + b + c - r) (frm (q + a)) (frm (q + a + b)) = v at *
  have u3 : r + m - 4 ≤ u := by omega
  have u4 : u ≤ r + m + 4 := by omega
  have v3 : 0 ≤ v := by omega
  have v4 : v ≤ a + c + 4 := by omega
  have v5 : a + c - 4 ≤ v := by omega
  clear u1 u2 v1 v2
  have hc0 : (w.alloc (.cells #[.int .u32 a, .int .u32 b, .int .u32 c] 37)).cell? ⟨w.heap.size, 0, none⟩ = some (.int .u32 a) := by simp
  have hc1 : (w.alloc (.cells #[.int .u32 a, .int .u32 b, .int .u32 c] 37)).cell? ⟨w.heap.size, 1, none⟩ = some (.int .u32 b) := by simp
  have hc2 : (w.alloc (.cells #[.int .u32 a, .int .u32 b, .int .u32 c] 37)).cell? ⟨w.heap.size, 2, none⟩ = some (.int .u32 c) := by simp
  go_enter Try.func5, Try.ntmps5
  go_wp2_with fail
  go_quiet (fail)
  go_wp2_with fail
  refine (F0.out _).mono ?_
  rintro e w1 ⟨rfl, hg1⟩
  go_wp2_with fail
  refine (F1.out _).mono ?_
  rintro e w2 ⟨rfl, hg2⟩
  go_wp2_with fail
  refine (M.out _).mono ?_
  rintro e w3 ⟨rfl, hg3⟩
  go_wp2_with fail
  refine (A.out _).mono ?_
  rintro e w4 ⟨rfl, hg4⟩
  have B := Lib.hid (bel_trans (below_drewN (bel_alloc w _) nq) (bel_trans hg1 (bel_trans hg2 (bel_trans hg3 hg4))))
  clear hg1 hg2 hg3 hg4
  go_wp2
  all_goals
    go_ret
    exact ⟨rfl, B.out⟩
end Go.Proofs.Ytanoaelgaabmgaa
