/- SampleNows' walk. -/
import Derived.Test.YtanoaelgaabmgaaMake
import Derived.Test.YtanoaelgaabmgaaBox
import Derived.Lib.QuietBelow
import Derived.BigQuiet
namespace Go.Proofs.Ytanoaelgaabmgaa
open Go.RowKit

set_option maxRecDepth 100000 in
set_option maxHeartbeats 4000000 in
theorem walk_nows (o d t s o' d' t' s' n0 n1 n2 : Int) (w : World) (h1 : -9223372036854775808 ≤ o) (h2 : o ≤ 9223372036854775807) (h3 : -9223372036854775808 ≤ s) (h4 : s ≤ 9223372036854775807) (h5 : -9223372036854775808 ≤ t) (h6 : t ≤ 9223372036854775807)
    (g1 : -9223372036854775808 ≤ n0) (g2 : n0 ≤ 9223372036854775807) (g3 : -9223372036854775808 ≤ n1) (g4 : n1 ≤ 9223372036854775807) :
    Calls Try.prog 4 #[.agg #[.int .i64 o, .int .i64 d, .int .i64 t, .int .i64 s], .agg #[.int .i64 o', .int .i64 d', .int .i64 t', .int .i64 s'], .agg #[.int .i64 n0, .int .i64 n1, .int .i64 n2]] w fun e w' => e = .returned (.bool true) ∧ Below w.heap.size w w' := by
  have A := Lib.hid alive_any
  have N := Lib.hid (fun w => now_any o d t s n0 w h1 h2 h3 h4 g1 g2)
  have RN := Lib.hid (fun w => rnow_any o d t s n0 w h1 h2 h3 h4 g1 g2)
  have F := Lib.hid (fun w => fresh_any o d t s n1 n2 w h5 h6 g3 g4)
  have RF := Lib.hid (fun w => rfresh_any o d t s n1 n2 w h5 h6 g3 g4)
  have B := Lib.hid (fun w => better_any o d t s o' d' t' s' w)
  have RB := Lib.hid (fun w => rbetter_any o d t s o' d' t' s' w)
  generalize nowOf o s n0 = x at *
  generalize freshOf t n1 n2 = y at *
  generalize bet d t d' t' = z at *
  obtain ⟨W, hW⟩ : ∃ W, W = ((w.alloc (.cells #[.int .i64 o, .int .i64 d, .int .i64 t, .int .i64 s] 30)).alloc (.cells #[.int .i64 o', .int .i64 d', .int .i64 t', .int .i64 s'] 30)).alloc (.cells #[.int .i64 n0, .int .i64 n1, .int .i64 n2] 31) := ⟨_, rfl⟩
  obtain ⟨x0, x1, x2, hbW⟩ := box3 hW
  have a0 : W.cell? ⟨w.heap.size, 0, none⟩ = some (.int .i64 o) := x0 0
  have a1 : W.cell? ⟨w.heap.size, 1, none⟩ = some (.int .i64 d) := x0 1
  have a2 : W.cell? ⟨w.heap.size, 2, none⟩ = some (.int .i64 t) := x0 2
  have a3 : W.cell? ⟨w.heap.size, 3, none⟩ = some (.int .i64 s) := x0 3
  have b0 : W.cell? ⟨w.heap.size + 1, 0, none⟩ = some (.int .i64 o') := x1 0
  have b1 : W.cell? ⟨w.heap.size + 1, 1, none⟩ = some (.int .i64 d') := x1 1
  have b2 : W.cell? ⟨w.heap.size + 1, 2, none⟩ = some (.int .i64 t') := x1 2
  have b3 : W.cell? ⟨w.heap.size + 1, 3, none⟩ = some (.int .i64 s') := x1 3
  have c0 : W.cell? ⟨w.heap.size + 1 + 1, 0, none⟩ = some (.int .i64 n0) := x2 0
  have c1 : W.cell? ⟨w.heap.size + 1 + 1, 1, none⟩ = some (.int .i64 n1) := x2 1
  have c2 : W.cell? ⟨w.heap.size + 1 + 1, 2, none⟩ = some (.int .i64 n2) := x2 2
  have ma0 := fun k os => cell_regrown a0 k os
  have ma1 := fun k os => cell_regrown a1 k os
  have ma2 := fun k os => cell_regrown a2 k os
  have ma3 := fun k os => cell_regrown a3 k os
  have mb0 := fun k os => cell_regrown b0 k os
  have mb1 := fun k os => cell_regrown b1 k os
  have mb2 := fun k os => cell_regrown b2 k os
  have mb3 := fun k os => cell_regrown b3 k os
  have mc0 := fun k os => cell_regrown c0 k os
  have mc1 := fun k os => cell_regrown c1 k os
  have mc2 := fun k os => cell_regrown c2 k os
  clear a0 a1 a2 a3 b0 b1 b2 b3 c0 c1 c2
  have k0 : ∀ k os, Calls Try.prog 13 #[] (Sort.grow (redrawn W k) os) fun e w'' => e = .returned (.bool true) ∧ ∃ p : Regrown, w'' = Sort.grow (redrawn W p.d) p.os := fun k os => Calls.regrown_of (A.out _)
  have k1 : ∀ k os, Calls Try.prog 14 #[.agg #[.int .i64 o, .int .i64 d, .int .i64 t, .int .i64 s], .int .i64 n0] (Sort.grow (redrawn W k) os) fun e w'' => e = .returned (.int .i64 x) ∧ ∃ p : Regrown, w'' = Sort.grow (redrawn W p.d) p.os := fun k os => Calls.regrown_of (N.out _)
  have k2 : ∀ k os, Calls Try.prog 15 #[.agg #[.int .i64 o, .int .i64 d, .int .i64 t, .int .i64 s], .int .i64 n0] (Sort.grow (redrawn W k) os) fun e w'' => e = .returned (.int .i64 x) ∧ ∃ p : Regrown, w'' = Sort.grow (redrawn W p.d) p.os := fun k os => Calls.regrown_of (RN.out _)
  have k3 : ∀ k os, Calls Try.prog 16 #[.agg #[.int .i64 o, .int .i64 d, .int .i64 t, .int .i64 s], .int .i64 n1, .int .i64 n2] (Sort.grow (redrawn W k) os) fun e w'' => e = .returned (.bool y) ∧ ∃ p : Regrown, w'' = Sort.grow (redrawn W p.d) p.os := fun k os => Calls.regrown_of (F.out _)
  have k4 : ∀ k os, Calls Try.prog 17 #[.agg #[.int .i64 o, .int .i64 d, .int .i64 t, .int .i64 s], .int .i64 n1, .int .i64 n2] (Sort.grow (redrawn W k) os) fun e w'' => e = .returned (.bool y) ∧ ∃ p : Regrown, w'' = Sort.grow (redrawn W p.d) p.os := fun k os => Calls.regrown_of (RF.out _)
  have k5 : ∀ k os, Calls Try.prog 18 #[.agg #[.int .i64 o, .int .i64 d, .int .i64 t, .int .i64 s], .agg #[.int .i64 o', .int .i64 d', .int .i64 t', .int .i64 s']] (Sort.grow (redrawn W k) os) fun e w'' => e = .returned (.bool z) ∧ ∃ p : Regrown, w'' = Sort.grow (redrawn W p.d) p.os := fun k os => Calls.regrown_of (B.out _)
  have k6 : ∀ k os, Calls Try.prog 19 #[.agg #[.int .i64 o, .int .i64 d, .int .i64 t, .int .i64 s], .agg #[.int .i64 o', .int .i64 d', .int .i64 t', .int .i64 s']] (Sort.grow (redrawn W k) os) fun e w'' => e = .returned (.bool z) ∧ ∃ p : Regrown, w'' = Sort.grow (redrawn W p.d) p.os := fun k os => Calls.regrown_of (RB.out _)
  have HW := Lib.hid hW
  clear hW x0 x1 x2
  go_enter Try.func4, Try.ntmps4
  go_wp2_with fail
  rw [← HW.out]
  refine wp_region_quiet_below (by kernel_rfl) (by kernel_rfl) ?_
  repeat (go_big_quiet_step (first | with_reducible exact k0 _ _ | with_reducible exact k1 _ _ | with_reducible exact k2 _ _ | with_reducible exact k3 _ _ | with_reducible exact k4 _ _ | with_reducible exact k5 _ _ | with_reducible exact k6 _ _))
  refine wpQuiet_nil ?_
  intro _ hw'
  obtain ⟨⟨dq, osq⟩, hw''⟩ := hw'
  subst hw''
  go_wp2
  go_ret
  exact ⟨rfl, bel_trans hbW (below_regrown W dq osq)⟩
end Go.Proofs.Ytanoaelgaabmgaa
