/- SampleMakes' walk. -/
import Derived.Test.YtanoaelgaabmgaaMake
namespace Go.Proofs.Ytanoaelgaabmgaa
open Go.RowKit

set_option maxRecDepth 100000 in
set_option maxHeartbeats 2000000 in
theorem walk_makes (t0 t1 s0 s1 : Int) (w : World) (h1 : -9223372036854775808 ≤ t0) (h2 : t0 ≤ 9223372036854775807) (h3 : -9223372036854775808 ≤ t1) (h4 : t1 ≤ 9223372036854775807) :
    Calls Try.prog 3 #[.agg #[.int .i64 t0, .int .i64 t1], .agg #[.int .u64 s0, .int .u64 s1]] w fun e w' => e = .returned (.bool true) ∧ Below w.heap.size w w' := by
  have M := Lib.hid (fun w => make_any t0 t1 s0 s1 w h1 h2 h3 h4)
  have R := Lib.hid (fun w => rmake_any t0 t1 s0 s1 w h1 h2 h3 h4)
  have A := Lib.hid alive_any
  generalize offs t0 t1 s0 s1 = u at *
  generalize tooks t0 t1 s0 s1 = v at *
  obtain ⟨W, hW⟩ : ∃ W, W = (w.alloc (.cells #[.int .i64 t0, .int .i64 t1] 22)).alloc (.cells #[.int .u64 s0, .int .u64 s1] 24) := ⟨_, rfl⟩
  have hbW : Below w.heap.size w W := by rw [hW]; exact (bel_alloc _ _).alloc (by simp) _
  have c0 : W.cell? ⟨w.heap.size, 0, none⟩ = some (.int .i64 t0) := by rw [hW]; simp
  have c1 : W.cell? ⟨w.heap.size, 1, none⟩ = some (.int .i64 t1) := by rw [hW]; simp
  have c2 : W.cell? ⟨w.heap.size + 1, 0, none⟩ = some (.int .u64 s0) := by rw [hW]; simp
  have c3 : W.cell? ⟨w.heap.size + 1, 1, none⟩ = some (.int .u64 s1) := by rw [hW]; simp
  have HW := Lib.hid hW
  go_enter Try.func3, Try.ntmps3
  go_wp2_with fail
  rw [← HW.out]
  clear hW
  refine (M.out _).mono ?_
  rintro e w1 ⟨rfl, hg1⟩
  have d0 := cell_later hg1 c0
  have d1 := cell_later hg1 c1
  have d2 := cell_later hg1 c2
  have d3 := cell_later hg1 c3
  go_wp2_with fail
  refine (R.out _).mono ?_
  rintro e w2 ⟨rfl, rfl⟩
  go_wp2_with fail
  refine (A.out _).mono ?_
  rintro e w3 ⟨rfl, hg3⟩
  go_wp2
  go_ret
  exact ⟨rfl, bel_trans hbW (bel_trans hg1 hg3)⟩
end Go.Proofs.Ytanoaelgaabmgaa
