/- SampleNone's walk. -/
import Derived.Test.YtanoaelgaabmgaaNear
namespace Go.Proofs.Ytanoaelgaabmgaa
open Go.RowKit

set_option maxRecDepth 100000 in
set_option maxHeartbeats 2000000 in
theorem walk_none (x y : Int) (w : World) (h3 : 0 ≤ y) (h4 : y ≤ 4294967295) :
    Calls Try.prog 10 #[.int .i64 x, .int .u32 y] w fun e w' => e = .returned (.bool true) ∧ Below w.heap.size w w' := by
  obtain ⟨r, er, r1, r2⟩ := rem_bd x 576460752303423488 (by decide)
  have F0 := Lib.hid (fun w => from_any r w (by omega) (by omega))
  have F1 := Lib.hid (fun w => from_any (r + y) w (by omega) (by omega))
  have M := Lib.hid (fun w => make_any r (r + y) (frm r) (frm (r + y)) w (by omega) (by omega) (by omega) (by omega))
  have A := Lib.hid alive_any
  obtain ⟨u1, u2⟩ := offs_near r (r + y) r (r + y) (by omega) (by omega) (by omega) (by omega)
  obtain ⟨v1, v2⟩ := tooks_near r (r + y) r (r + y) (by omega) (by omega) (by omega)
  generalize offs r (r + y) (frm r) (frm (r + y)) = u at *
  generalize tooks r (r + y) (frm r) (frm (r + y)) = v at *
  have u3 : -1 ≤ u := by omega
  have u4 : u ≤ 1 := by omega
  have v3 : 0 ≤ v := by omega
  have v4 : v ≤ 2 := by omega
  clear u1 u2 v1 v2
  go_enter Try.func10, Try.ntmps10
  go_wp2_with fail
  refine (F0.out _).mono ?_
  rintro e w1 ⟨rfl, hg1⟩
  go_wp2_with fail
  refine (F1.out _).mono ?_
  rintro e w2 ⟨rfl, hg2⟩
  go_wp2_with fail
  refine (M.out _).mono ?_
  rintro e w3 ⟨rfl, hg3⟩
  go_wp2_with fail
  refine (F0.out _).mono ?_
  rintro e w4 ⟨rfl, hg4⟩
  go_wp2_with fail
  refine (F1.out _).mono ?_
  rintro e w5 ⟨rfl, hg5⟩
  go_wp2_with fail
  refine (M.out _).mono ?_
  rintro e w6 ⟨rfl, hg6⟩
  go_wp2_with fail
  refine (A.out _).mono ?_
  rintro e w7 ⟨rfl, hg7⟩
  go_wp2
  go_ret
  exact ⟨rfl, bel_trans hg1 (bel_trans hg2 (bel_trans hg3 (bel_trans hg4 (bel_trans hg5 (bel_trans hg6 hg7)))))⟩
end Go.Proofs.Ytanoaelgaabmgaa
