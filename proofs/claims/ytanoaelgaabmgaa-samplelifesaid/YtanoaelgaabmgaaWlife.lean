/- SampleLife's walk. -/
import Derived.Test.YtanoaelgaabmgaaNear
import Derived.Test.YtanoaelgaabmgaaBox
import Derived.Lib.QuietBelow
import Derived.BigQuiet
namespace Go.Proofs.Ytanoaelgaabmgaa
open Go.RowKit

set_option maxRecDepth 100000 in
set_option maxHeartbeats 2000000 in
theorem walk_life (o d x s l : Int) (w : World) (l1 : 0 ≤ l) (l2 : l ≤ 4294967295) :
    Calls Try.prog 8 #[.agg #[.int .i64 o, .int .i64 d, .int .i64 x, .int .i64 s], .int .u32 l] w fun e w' => e = .returned (.bool true) ∧ Below w.heap.size w w' := by
  obtain ⟨t, et, t1, t2⟩ := rem_bd x 1152921504606846976 (by decide)
  have A := Lib.hid alive_any
  have f0 := (fun w => fresh_any o d t s t l w (by omega) (by omega) (by omega) (by omega))
  have f1 := (fun w => fresh_any o d t s (t + l) l w (by omega) (by omega) (by omega) (by omega))
  have f2 := (fun w => fresh_any o d t s (t + l + 1) l w (by omega) (by omega) (by omega) (by omega))
  have f3 := (fun w => fresh_any o d t s (t - 1) l w (by omega) (by omega) (by omega) (by omega))
  rw [show freshOf t t l = true by unfold freshOf; rw [stp_in (by omega) (by omega)]; simp; omega] at f0
  rw [show freshOf t (t + l) l = true by unfold freshOf; rw [stp_in (by omega) (by omega)]; simp; omega] at f1
  rw [show freshOf t (t + l + 1) l = false by unfold freshOf; rw [stp_in (by omega) (by omega)]; simp; omega] at f2
  rw [show freshOf t (t - 1) l = false by unfold freshOf; rw [stp_in (by omega) (by omega)]; simp; omega] at f3
  have F0 := Lib.hid f0
  have F1 := Lib.hid f1
  have F2 := Lib.hid f2
  have F3 := Lib.hid f3
  clear f0 f1 f2 f3
  go_enter Try.func8, Try.ntmps8
  go_wp2_with fail
  refine (A.out _).mono ?_
  rintro e w1 ⟨rfl, hg1⟩
  have e0 : w1.cell? ⟨w.heap.size, 0, none⟩ = some (.int .i64 o) := cell_later hg1 (by simp)
  have e1 : w1.cell? ⟨w.heap.size, 1, none⟩ = some (.int .i64 d) := cell_later hg1 (by simp)
  have e2 : w1.cell? ⟨w.heap.size, 2, none⟩ = some (.int .i64 t) := cell_later hg1 (by simp)
  have e3 : w1.cell? ⟨w.heap.size, 3, none⟩ = some (.int .i64 s) := cell_later hg1 (by simp)
  go_wp2_with fail
  refine (F0.out _).mono ?_
  rintro e w2 ⟨rfl, hg2⟩
  have f0 : w2.cell? ⟨w.heap.size, 0, none⟩ = some (.int .i64 o) := cell_later hg2 e0
  have f1 : w2.cell? ⟨w.heap.size, 1, none⟩ = some (.int .i64 d) := cell_later hg2 e1
  have f2 : w2.cell? ⟨w.heap.size, 2, none⟩ = some (.int .i64 t) := cell_later hg2 e2
  have f3 : w2.cell? ⟨w.heap.size, 3, none⟩ = some (.int .i64 s) := cell_later hg2 e3
  go_wp2_with fail
  refine (F1.out _).mono ?_
  rintro e w3 ⟨rfl, hg3⟩
  have g0 : w3.cell? ⟨w.heap.size, 0, none⟩ = some (.int .i64 o) := cell_later hg3 f0
  have g1 : w3.cell? ⟨w.heap.size, 1, none⟩ = some (.int .i64 d) := cell_later hg3 f1
  have g2 : w3.cell? ⟨w.heap.size, 2, none⟩ = some (.int .i64 t) := cell_later hg3 f2
  have g3 : w3.cell? ⟨w.heap.size, 3, none⟩ = some (.int .i64 s) := cell_later hg3 f3
  go_wp2_with fail
  refine (F2.out _).mono ?_
  rintro e w4 ⟨rfl, hg4⟩
  have h0 : w4.cell? ⟨w.heap.size, 0, none⟩ = some (.int .i64 o) := cell_later hg4 g0
  have h1 : w4.cell? ⟨w.heap.size, 1, none⟩ = some (.int .i64 d) := cell_later hg4 g1
  have h2 : w4.cell? ⟨w.heap.size, 2, none⟩ = some (.int .i64 t) := cell_later hg4 g2
  have h3 : w4.cell? ⟨w.heap.size, 3, none⟩ = some (.int .i64 s) := cell_later hg4 g3
  go_wp2_with fail
  refine (F3.out _).mono ?_
  rintro e w5 ⟨rfl, hg5⟩
  go_wp2
  go_ret
  exact ⟨rfl, bel_trans (bel_alloc w _) (bel_trans hg1 (bel_trans hg2 (bel_trans hg3 (bel_trans hg4 hg5))))⟩
end Go.Proofs.Ytanoaelgaabmgaa
