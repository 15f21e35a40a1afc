/- SampleStays' walk: the function that it makes, and calls. -/
import Derived.Test.YtanoaelgaabmgaaNear
import Derived.Test.YtanoaelgaabmgaaBox
import Derived.BigQuiet
import Derived.Lib.QuietBelow
namespace Go.Proofs.Ytanoaelgaabmgaa
open Go.RowKit

/-- How long it took, as the law's own function tells it. -/
def tel (q a b c : Int) : Int := tooks q (q + a + b + c) (frm (q + a)) (frm (q + a + b))
theorem tel_near (q a b c : Int) (a1 : 0 ≤ a) (b1 : 0 ≤ b) (c1 : 0 ≤ c) (h : a + b + c ≤ 1152921504606846976) : a + c ≤ tel q a b c ∧ tel q a b c ≤ a + c + 1 := by
  obtain ⟨v1, v2⟩ := tooks_near q (q + a + b + c) (q + a) (q + a + b) (by omega) (by omega) (by omega)
  unfold tel; omega

theorem near_any (a b : Int) (w : World) (h1 : b - 4 ≤ a) (h2 : a ≤ b + 4) (h3 : -9223372036854775800 ≤ b) (h4 : b ≤ 9223372036854775800) :
    Calls Try.prog 22 #[.int .i64 a, .int .i64 b] w fun e w' => e = .returned (.bool true) ∧ Below w.heap.size w w' := by
  go_enter Try.func22, Try.ntmps22
  go_wp2
  go_ret
  exact ⟨rfl, Below.refl _ _⟩

set_option maxRecDepth 100000 in
set_option maxHeartbeats 2000000 in
theorem tell_any (q a b c : Int) (g : Nat) (w : World) (hc : w.cell? ⟨g, 0, none⟩ = some (.int .i64 q)) (q1 : -576460752303423488 < q) (q2 : q < 576460752303423488) (a1 : 0 ≤ a) (a2 : a ≤ 8589934591) (b1 : 0 ≤ b) (b2 : b ≤ 8589934591) (c1 : 0 ≤ c) (c2 : c ≤ 8589934591) :
    Calls Try.prog 21 #[.int .i64 a, .int .i64 b, .int .i64 c, .pointer (some ⟨g, 0, none⟩)] w fun e w' => (∃ u, e = .returned (.tuple #[.int .i64 u, .int .i64 (tel q a b c)])) ∧ Below w.heap.size w w' := by
  have F0 := Lib.hid (fun w => from_any (q + a) w (by omega) (by omega))
  have F1 := Lib.hid (fun w => from_any (q + a + b) w (by omega) (by omega))
  have M := (fun w => make_any q (q + a + b + c) (frm (q + a)) (frm (q + a + b)) w (by omega) (by omega) (by omega) (by omega))
  rw [show tooks q (q + a + b + c) (frm (q + a)) (frm (q + a + b)) = tel q a b c from rfl] at M
  have KM := Lib.hid M
  clear M
  have mc := fun k os => cell_regrown hc k os
  generalize offs q (q + a + b + c) (frm (q + a)) (frm (q + a + b)) = u at *
  generalize tel q a b c = v at *
  have k0 : ∀ k os, Calls Try.prog 20 #[.int .i64 (q + a)] (Sort.grow (redrawn w k) os) fun e w'' => e = .returned (.int .u64 (frm (q + a))) ∧ ∃ p : Regrown, w'' = Sort.grow (redrawn w p.d) p.os := fun k os => Calls.regrown_of (F0.out _)
  have k1 : ∀ k os, Calls Try.prog 20 #[.int .i64 (q + a + b)] (Sort.grow (redrawn w k) os) fun e w'' => e = .returned (.int .u64 (frm (q + a + b))) ∧ ∃ p : Regrown, w'' = Sort.grow (redrawn w p.d) p.os := fun k os => Calls.regrown_of (F1.out _)
  have k2 : ∀ k os, Calls Try.prog 11 #[.int .i64 q, .int .i64 (q + a + b + c), .int .u64 (frm (q + a)), .int .u64 (frm (q + a + b))] (Sort.grow (redrawn w k) os) fun e w'' => e = .returned (.tuple #[.int .i64 u, .int .i64 v]) ∧ ∃ p : Regrown, w'' = Sort.grow (redrawn w p.d) p.os := fun k os => Calls.regrown_of (KM.out _)
  go_enter Try.func21, Try.ntmps21
  go_wp2_with fail
  refine wp_region_quiet_below (by kernel_rfl) (by kernel_rfl) ?_
  repeat (go_big_quiet_step (first | with_reducible exact k0 _ _ | with_reducible exact k1 _ _ | with_reducible exact k2 _ _))
  refine wpQuiet_nil ?_
  intro w2 hw'
  have hb2 : Below w.heap.size w w2 := by
    obtain ⟨⟨dq, osq⟩, hw''⟩ := hw'
    rw [hw'']; exact below_regrown w dq osq
  clear hw' k0 k1 k2 mc
  go_wp2
  go_ret2
  exact ⟨⟨u, rfl⟩, hb2⟩

set_option maxRecDepth 100000 in
set_option maxHeartbeats 2000000 in
theorem walk_stays (x a b c m : Int) (w : World) (a1 : 0 ≤ a) (a2 : a ≤ 4294967295) (b1 : 0 ≤ b) (b2 : b ≤ 4294967295) (c1 : 0 ≤ c) (c2 : c ≤ 4294967295) (m1 : 0 ≤ m) (m2 : m ≤ 4294967295) :
    Calls Try.prog 9 #[.int .i64 x, .agg #[.int .u32 a, .int .u32 b, .int .u32 c], .int .u32 m] w fun e w' => e = .returned (.bool true) ∧ Below w.heap.size w w' := by
  obtain ⟨q, eq, q1, q2⟩ := rem_bd x 576460752303423488 (by decide)
  have T0 := Lib.hid (fun (g : Nat) (u : World) hc => tell_any q a b c g u hc q1 q2 a1 (by omega) b1 (by omega) c1 (by omega))
  have T1 := Lib.hid (fun (g : Nat) (u : World) hc => tell_any q a (b + m) c g u hc q1 q2 a1 (by omega) (by omega) (by omega) c1 (by omega))
  have T2 := Lib.hid (fun (g : Nat) (u : World) hc => tell_any q (a + m) b c g u hc q1 q2 (by omega) (by omega) b1 (by omega) c1 (by omega))
  obtain ⟨x1, x2⟩ := tel_near q a b c a1 b1 c1 (by omega)
  obtain ⟨y1, y2⟩ := tel_near q a (b + m) c a1 (by omega) c1 (by omega)
  obtain ⟨z1, z2⟩ := tel_near q (a + m) b c (by omega) b1 c1 (by omega)
  generalize tel q a b c = X at *
  generalize tel q a (b + m) c = Y at *
  generalize tel q (a + m) b c = Z at *
  have N0 := Lib.hid (fun w => near_any X Y w (by omega) (by omega) (by omega) (by omega))
  have N1 := Lib.hid (fun w => near_any Z (X + m) w (by omega) (by omega) (by omega) (by omega))
  have A := Lib.hid alive_any
  have x3 : 0 ≤ X := by omega
  have x4 : X ≤ 1099511627776 := by omega
  clear x1 x2 y1 y2 z1 z2
  have hc0 : ((w.alloc (.cells #[.int .i64 q] 2)).alloc (.cells #[.int .u32 a, .int .u32 b, .int .u32 c] 37)).cell? ⟨w.heap.size, 0, none⟩ = some (.int .i64 q) := by simp
  have bw : Below w.heap.size w ((w.alloc (.cells #[.int .i64 q] 2)).alloc (.cells #[.int .u32 a, .int .u32 b, .int .u32 c] 37)) := (bel_alloc _ _).alloc (by simp) _
  have HC := Lib.hid hc0
  have BW := Lib.hid bw
  clear hc0 bw
  go_enter Try.func9, Try.ntmps9
  go_wp2_with fail
  go_quiet (fail)
  go_wp2_with fail
  have hc1 := cell_later (below_drewN (Below.refl _ _) nq) HC.out
  refine (T0.out _ _ hc1).mono ?_
  rintro e w1 ⟨⟨u1, rfl⟩, hg1⟩
  have hc2 := cell_later hg1 hc1
  clear hc1
  go_wp2_with fail
  refine (T1.out _ _ hc2).mono ?_
  rintro e w2 ⟨⟨u2, rfl⟩, hg2⟩
  have hc3 := cell_later hg2 hc2
  clear hc2
  go_wp2_with fail
  refine (T2.out _ _ hc3).mono ?_
  rintro e w3 ⟨⟨u3, rfl⟩, hg3⟩
  clear hc3
  go_wp2_with fail
  refine (A.out _).mono ?_
  rintro e w4 ⟨rfl, hg4⟩
  go_wp2_with fail
  refine (N0.out _).mono ?_
  rintro e w5 ⟨rfl, hg5⟩
  go_wp2_with fail
  refine (N1.out _).mono ?_
  rintro e w6 ⟨rfl, hg6⟩
  go_wp2
  go_ret
  exact ⟨rfl, bel_trans (below_drewN BW.out nq) (bel_trans hg1 (bel_trans hg2 (bel_trans hg3 (bel_trans hg4 (bel_trans hg5 hg6)))))⟩
end Go.Proofs.Ytanoaelgaabmgaa
