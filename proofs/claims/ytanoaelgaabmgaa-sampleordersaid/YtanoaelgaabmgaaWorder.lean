/- SampleOrder's walk. -/
import Derived.Test.YtanoaelgaabmgaaMake
import Derived.Test.YtanoaelgaabmgaaBox
import Derived.Lib.QuietBelow
import Derived.BigQuiet
namespace Go.Proofs.Ytanoaelgaabmgaa
open Go.RowKit

/-- Never both are better. -/
theorem bet_not {d t d' t' : Int} (h : bet d t d' t' = true) : bet d' t' d t = false := by
  simp only [bet, Bool.or_eq_true, Bool.and_eq_true, decide_eq_true_eq, beq_iff_eq, Bool.or_eq_false_iff, Bool.and_eq_false_iff, decide_eq_false_iff_not, beq_eq_false_iff_ne] at *
  omega
theorem bet_self (d t : Int) : bet d t d t = false := by simp [bet]
theorem bet_on {d t d' t' d'' t'' : Int} (h : bet d t d' t' = true) (g : bet d' t' d'' t'' = true) : bet d t d'' t'' = true := by
  simp only [bet, Bool.or_eq_true, Bool.and_eq_true, decide_eq_true_eq, beq_iff_eq] at *
  omega
theorem bet_same {d t d' t' : Int} (h : bet d t d' t' = false) (g : bet d' t' d t = false) : d = d' ∧ t = t' := by
  simp only [bet, Bool.or_eq_false_iff, Bool.and_eq_false_iff, decide_eq_false_iff_not, beq_eq_false_iff_ne] at *
  omega

theorem five_ways : ∀ X Y e1 e2 : Bool, (X && Y || (X || Y) != (e1 || e2)) = false → (X = true ∧ Y = false ∧ e1 = true) ∨ (X = true ∧ Y = false ∧ e1 = false ∧ e2 = true) ∨ (X = false ∧ Y = true ∧ e1 = true) ∨ (X = false ∧ Y = true ∧ e1 = false ∧ e2 = true) ∨ (X = false ∧ Y = false ∧ e1 = false ∧ e2 = false) := by decide
theorem two_ways : ∀ Z U : Bool, (!true || !Z || U) = true → Z = false ∨ (Z = true ∧ U = true) := by decide

set_option maxRecDepth 100000 in
set_option maxHeartbeats 4000000 in
theorem order_core (o d t s o' d' t' s' o'' d'' t'' s'' : Int) (X Y Z U e1 e2 : Bool) (w : World)
    (h1 : ∀ w, Calls Try.prog 18 #[.agg #[.int .i64 o, .int .i64 d, .int .i64 t, .int .i64 s], .agg #[.int .i64 o', .int .i64 d', .int .i64 t', .int .i64 s']] w fun e w' => e = .returned (.bool X) ∧ Below w.heap.size w w')
    (h2 : ∀ w, Calls Try.prog 18 #[.agg #[.int .i64 o', .int .i64 d', .int .i64 t', .int .i64 s'], .agg #[.int .i64 o, .int .i64 d, .int .i64 t, .int .i64 s]] w fun e w' => e = .returned (.bool Y) ∧ Below w.heap.size w w')
    (h3 : ∀ w, Calls Try.prog 18 #[.agg #[.int .i64 o, .int .i64 d, .int .i64 t, .int .i64 s], .agg #[.int .i64 o, .int .i64 d, .int .i64 t, .int .i64 s]] w fun e w' => e = .returned (.bool false) ∧ Below w.heap.size w w')
    (h4 : ∀ w, Calls Try.prog 18 #[.agg #[.int .i64 o', .int .i64 d', .int .i64 t', .int .i64 s'], .agg #[.int .i64 o'', .int .i64 d'', .int .i64 t'', .int .i64 s'']] w fun e w' => e = .returned (.bool Z) ∧ Below w.heap.size w w')
    (h5 : ∀ w, Calls Try.prog 18 #[.agg #[.int .i64 o, .int .i64 d, .int .i64 t, .int .i64 s], .agg #[.int .i64 o'', .int .i64 d'', .int .i64 t'', .int .i64 s'']] w fun e w' => e = .returned (.bool U) ∧ Below w.heap.size w w')
    (g1 : (d != d') = e1) (g2 : (t != t') = e2) (k1 : (X && Y || (X || Y) != (e1 || e2)) = false) (k2 : (!X || !Z || U) = true) :
    Calls Try.prog 6 #[.agg #[.int .i64 o, .int .i64 d, .int .i64 t, .int .i64 s], .agg #[.int .i64 o', .int .i64 d', .int .i64 t', .int .i64 s'], .agg #[.int .i64 o'', .int .i64 d'', .int .i64 t'', .int .i64 s'']] w fun e w' => e = .returned (.bool true) ∧ Below w.heap.size w w' := by
  have H1 := Lib.hid h1
  have H2 := Lib.hid h2
  have H3 := Lib.hid h3
  have H4 := Lib.hid h4
  have H5 := Lib.hid h5
  have A := Lib.hid alive_any
  clear h1 h2 h3 h4 h5
  obtain ⟨W, hW⟩ : ∃ W, W = ((w.alloc (.cells #[.int .i64 o, .int .i64 d, .int .i64 t, .int .i64 s] 30)).alloc (.cells #[.int .i64 o', .int .i64 d', .int .i64 t', .int .i64 s'] 30)).alloc (.cells #[.int .i64 o'', .int .i64 d'', .int .i64 t'', .int .i64 s''] 30) := ⟨_, rfl⟩
  obtain ⟨x0, x1, x2, hbW⟩ := box3 hW
  have a0 : W.cell? ⟨w.heap.size, 0, none⟩ = some (.int .i64 o) := x0 0
  have a1 : W.cell? ⟨w.heap.size, 1, none⟩ = some (.int .i64 d) := x0 1
  have a2 : W.cell? ⟨w.heap.size, 2, none⟩ = some (.int .i64 t) := x0 2
  have a3 : W.cell? ⟨w.heap.size, 3, none⟩ = some (.int .i64 s) := x0 3
  have b0 : W.cell? ⟨w.heap.size + 1, 0, none⟩ = some (.int .i64 o') := x1 0
  have b1 : W.cell? ⟨w.heap.size + 1, 1, none⟩ = some (.int .i64 d') := x1 1
  have b2 : W.cell? ⟨w.heap.size + 1, 2, none⟩ = some (.int .i64 t') := x1 2
  have b3 : W.cell? ⟨w.heap.size + 1, 3, none⟩ = some (.int .i64 s') := x1 3
  have c0 : W.cell? ⟨w.heap.size + 1 + 1, 0, none⟩ = some (.int .i64 o'') := x2 0
  have c1 : W.cell? ⟨w.heap.size + 1 + 1, 1, none⟩ = some (.int .i64 d'') := x2 1
  have c2 : W.cell? ⟨w.heap.size + 1 + 1, 2, none⟩ = some (.int .i64 t'') := x2 2
  have c3 : W.cell? ⟨w.heap.size + 1 + 1, 3, none⟩ = some (.int .i64 s'') := x2 3
  have HW := Lib.hid hW
  clear hW x0 x1 x2
  have mpa0 := fun k os => cell_regrown a0 k os
  have mpa1 := fun k os => cell_regrown a1 k os
  have mpa2 := fun k os => cell_regrown a2 k os
  have mpa3 := fun k os => cell_regrown a3 k os
  have mpb0 := fun k os => cell_regrown b0 k os
  have mpb1 := fun k os => cell_regrown b1 k os
  have mpb2 := fun k os => cell_regrown b2 k os
  have mpb3 := fun k os => cell_regrown b3 k os
  have c1 : ∀ k os, Calls Try.prog 18 #[.agg #[.int .i64 o, .int .i64 d, .int .i64 t, .int .i64 s], .agg #[.int .i64 o', .int .i64 d', .int .i64 t', .int .i64 s']] (Sort.grow (redrawn W k) os) fun e w'' => e = .returned (.bool X) ∧ ∃ p : Regrown, w'' = Sort.grow (redrawn W p.d) p.os := fun k os => Calls.regrown_of (H1.out _)
  have c2 : ∀ k os, Calls Try.prog 18 #[.agg #[.int .i64 o', .int .i64 d', .int .i64 t', .int .i64 s'], .agg #[.int .i64 o, .int .i64 d, .int .i64 t, .int .i64 s]] (Sort.grow (redrawn W k) os) fun e w'' => e = .returned (.bool Y) ∧ ∃ p : Regrown, w'' = Sort.grow (redrawn W p.d) p.os := fun k os => Calls.regrown_of (H2.out _)
  go_enter Try.func6, Try.ntmps6
  go_wp2_with fail
  rw [← HW.out]
  refine wp_region_quiet_below (by kernel_rfl) (by kernel_rfl) ?_
  repeat (go_big_quiet_step (first | with_reducible exact c1 _ _ | with_reducible exact c2 _ _))
  refine wpQuiet_nil ?_
  intro w1 hw'
  have hbw1 : Below W.heap.size W w1 := by
    obtain ⟨⟨dq, osq⟩, hw''⟩ := hw'
    rw [hw'']; exact below_regrown W dq osq
  clear hw'
  clear c1 c2 mpa0 mpa1 mpa2 mpa3 mpb0 mpb1 mpb2 mpb3
  have na0 := cell_later hbw1 a0
  have na1 := cell_later hbw1 a1
  have na2 := cell_later hbw1 a2
  have na3 := cell_later hbw1 a3
  have nb0 := cell_later hbw1 b0
  have nb1 := cell_later hbw1 b1
  have nb2 := cell_later hbw1 b2
  have nb3 := cell_later hbw1 b3
  have nc0 := cell_later hbw1 c0
  have nc1 := cell_later hbw1 c1
  have nc2 := cell_later hbw1 c2
  have nc3 := cell_later hbw1 c3
  clear a0 a1 a2 a3 b0 b1 b2 b3 c0 c1 c2 c3
  have K : (X = true ∧ Y = false ∧ e1 = true) ∨ (X = true ∧ Y = false ∧ e1 = false ∧ e2 = true) ∨ (X = false ∧ Y = true ∧ e1 = true) ∨ (X = false ∧ Y = true ∧ e1 = false ∧ e2 = true) ∨ (X = false ∧ Y = false ∧ e1 = false ∧ e2 = false) := five_ways X Y e1 e2 k1
  clear k1
  rcases K with ⟨rfl, rfl, rfl⟩ | ⟨rfl, rfl, rfl, rfl⟩ | ⟨rfl, rfl, rfl⟩ | ⟨rfl, rfl, rfl, rfl⟩ | ⟨rfl, rfl, rfl, rfl⟩
  · go_wp2_with fail
    refine (H3.out _).mono ?_
    rintro e w2 ⟨rfl, hg2⟩
    have pa0 := cell_later hg2 na0
    have pa1 := cell_later hg2 na1
    have pa2 := cell_later hg2 na2
    have pa3 := cell_later hg2 na3
    have pb0 := cell_later hg2 nb0
    have pb1 := cell_later hg2 nb1
    have pb2 := cell_later hg2 nb2
    have pb3 := cell_later hg2 nb3
    have pc0 := cell_later hg2 nc0
    have pc1 := cell_later hg2 nc1
    have pc2 := cell_later hg2 nc2
    have pc3 := cell_later hg2 nc3
    clear na0 na1 na2 na3 nb0 nb1 nb2 nb3 nc0 nc1 nc2 nc3
    go_wp2_with fail
    refine (A.out _).mono ?_
    rintro e w3 ⟨rfl, hg3⟩
    have qa0 := cell_later hg3 pa0
    have qa1 := cell_later hg3 pa1
    have qa2 := cell_later hg3 pa2
    have qa3 := cell_later hg3 pa3
    have qb0 := cell_later hg3 pb0
    have qb1 := cell_later hg3 pb1
    have qb2 := cell_later hg3 pb2
    have qb3 := cell_later hg3 pb3
    have qc0 := cell_later hg3 pc0
    have qc1 := cell_later hg3 pc1
    have qc2 := cell_later hg3 pc2
    have qc3 := cell_later hg3 pc3
    clear pa0 pa1 pa2 pa3 pb0 pb1 pb2 pb3 pc0 pc1 pc2 pc3
    have B3 := Lib.hid (bel_trans hbW (bel_trans hbw1 (bel_trans hg2 hg3)))
    clear hg2 hg3
    rcases two_ways Z U k2 with rfl | ⟨rfl, rfl⟩
    · go_wp2_with fail
      refine (H4.out _).mono ?_
      rintro e w4 ⟨rfl, hg4⟩
      go_wp2
      go_ret
      exact ⟨rfl, bel_trans B3.out hg4⟩
    · go_wp2_with fail
      refine (H4.out _).mono ?_
      rintro e w4 ⟨rfl, hg4⟩
      have ra0 := cell_later hg4 qa0
      have ra1 := cell_later hg4 qa1
      have ra2 := cell_later hg4 qa2
      have ra3 := cell_later hg4 qa3
      have rb0 := cell_later hg4 qb0
      have rb1 := cell_later hg4 qb1
      have rb2 := cell_later hg4 qb2
      have rb3 := cell_later hg4 qb3
      have rc0 := cell_later hg4 qc0
      have rc1 := cell_later hg4 qc1
      have rc2 := cell_later hg4 qc2
      have rc3 := cell_later hg4 qc3
      clear qa0 qa1 qa2 qa3 qb0 qb1 qb2 qb3 qc0 qc1 qc2 qc3
      go_wp2_with fail
      refine (H5.out _).mono ?_
      rintro e w5 ⟨rfl, hg5⟩
      go_wp2
      go_ret
      exact ⟨rfl, bel_trans B3.out (bel_trans hg4 hg5)⟩
  · go_wp2_with fail
    refine (H3.out _).mono ?_
    rintro e w2 ⟨rfl, hg2⟩
    have pa0 := cell_later hg2 na0
    have pa1 := cell_later hg2 na1
    have pa2 := cell_later hg2 na2
    have pa3 := cell_later hg2 na3
    have pb0 := cell_later hg2 nb0
    have pb1 := cell_later hg2 nb1
    have pb2 := cell_later hg2 nb2
    have pb3 := cell_later hg2 nb3
    have pc0 := cell_later hg2 nc0
    have pc1 := cell_later hg2 nc1
    have pc2 := cell_later hg2 nc2
    have pc3 := cell_later hg2 nc3
    clear na0 na1 na2 na3 nb0 nb1 nb2 nb3 nc0 nc1 nc2 nc3
    go_wp2_with fail
    refine (A.out _).mono ?_
    rintro e w3 ⟨rfl, hg3⟩
    have qa0 := cell_later hg3 pa0
    have qa1 := cell_later hg3 pa1
    have qa2 := cell_later hg3 pa2
    have qa3 := cell_later hg3 pa3
    have qb0 := cell_later hg3 pb0
    have qb1 := cell_later hg3 pb1
    have qb2 := cell_later hg3 pb2
    have qb3 := cell_later hg3 pb3
    have qc0 := cell_later hg3 pc0
    have qc1 := cell_later hg3 pc1
    have qc2 := cell_later hg3 pc2
    have qc3 := cell_later hg3 pc3
    clear pa0 pa1 pa2 pa3 pb0 pb1 pb2 pb3 pc0 pc1 pc2 pc3
    have B3 := Lib.hid (bel_trans hbW (bel_trans hbw1 (bel_trans hg2 hg3)))
    clear hg2 hg3
    rcases two_ways Z U k2 with rfl | ⟨rfl, rfl⟩
    · go_wp2_with fail
      refine (H4.out _).mono ?_
      rintro e w4 ⟨rfl, hg4⟩
      go_wp2
      go_ret
      exact ⟨rfl, bel_trans B3.out hg4⟩
    · go_wp2_with fail
      refine (H4.out _).mono ?_
      rintro e w4 ⟨rfl, hg4⟩
      have ra0 := cell_later hg4 qa0
      have ra1 := cell_later hg4 qa1
      have ra2 := cell_later hg4 qa2
      have ra3 := cell_later hg4 qa3
      have rb0 := cell_later hg4 qb0
      have rb1 := cell_later hg4 qb1
      have rb2 := cell_later hg4 qb2
      have rb3 := cell_later hg4 qb3
      have rc0 := cell_later hg4 qc0
      have rc1 := cell_later hg4 qc1
      have rc2 := cell_later hg4 qc2
      have rc3 := cell_later hg4 qc3
      clear qa0 qa1 qa2 qa3 qb0 qb1 qb2 qb3 qc0 qc1 qc2 qc3
      go_wp2_with fail
      refine (H5.out _).mono ?_
      rintro e w5 ⟨rfl, hg5⟩
      go_wp2
      go_ret
      exact ⟨rfl, bel_trans B3.out (bel_trans hg4 hg5)⟩
  · go_wp2_with fail
    refine (H3.out _).mono ?_
    rintro e w2 ⟨rfl, hg2⟩
    have pa0 := cell_later hg2 na0
    have pa1 := cell_later hg2 na1
    have pa2 := cell_later hg2 na2
    have pa3 := cell_later hg2 na3
    have pb0 := cell_later hg2 nb0
    have pb1 := cell_later hg2 nb1
    have pb2 := cell_later hg2 nb2
    have pb3 := cell_later hg2 nb3
    have pc0 := cell_later hg2 nc0
    have pc1 := cell_later hg2 nc1
    have pc2 := cell_later hg2 nc2
    have pc3 := cell_later hg2 nc3
    clear na0 na1 na2 na3 nb0 nb1 nb2 nb3 nc0 nc1 nc2 nc3
    go_wp2_with fail
    refine (A.out _).mono ?_
    rintro e w3 ⟨rfl, hg3⟩
    have qa0 := cell_later hg3 pa0
    have qa1 := cell_later hg3 pa1
    have qa2 := cell_later hg3 pa2
    have qa3 := cell_later hg3 pa3
    have qb0 := cell_later hg3 pb0
    have qb1 := cell_later hg3 pb1
    have qb2 := cell_later hg3 pb2
    have qb3 := cell_later hg3 pb3
    have qc0 := cell_later hg3 pc0
    have qc1 := cell_later hg3 pc1
    have qc2 := cell_later hg3 pc2
    have qc3 := cell_later hg3 pc3
    clear pa0 pa1 pa2 pa3 pb0 pb1 pb2 pb3 pc0 pc1 pc2 pc3
    have B3 := Lib.hid (bel_trans hbW (bel_trans hbw1 (bel_trans hg2 hg3)))
    clear hg2 hg3
    go_wp2
    go_ret
    exact ⟨rfl, B3.out⟩
  · go_wp2_with fail
    refine (H3.out _).mono ?_
    rintro e w2 ⟨rfl, hg2⟩
    have pa0 := cell_later hg2 na0
    have pa1 := cell_later hg2 na1
    have pa2 := cell_later hg2 na2
    have pa3 := cell_later hg2 na3
    have pb0 := cell_later hg2 nb0
    have pb1 := cell_later hg2 nb1
    have pb2 := cell_later hg2 nb2
    have pb3 := cell_later hg2 nb3
    have pc0 := cell_later hg2 nc0
    have pc1 := cell_later hg2 nc1
    have pc2 := cell_later hg2 nc2
    have pc3 := cell_later hg2 nc3
    clear na0 na1 na2 na3 nb0 nb1 nb2 nb3 nc0 nc1 nc2 nc3
    go_wp2_with fail
    refine (A.out _).mono ?_
    rintro e w3 ⟨rfl, hg3⟩
    have qa0 := cell_later hg3 pa0
    have qa1 := cell_later hg3 pa1
    have qa2 := cell_later hg3 pa2
    have qa3 := cell_later hg3 pa3
    have qb0 := cell_later hg3 pb0
    have qb1 := cell_later hg3 pb1
    have qb2 := cell_later hg3 pb2
    have qb3 := cell_later hg3 pb3
    have qc0 := cell_later hg3 pc0
    have qc1 := cell_later hg3 pc1
    have qc2 := cell_later hg3 pc2
    have qc3 := cell_later hg3 pc3
    clear pa0 pa1 pa2 pa3 pb0 pb1 pb2 pb3 pc0 pc1 pc2 pc3
    have B3 := Lib.hid (bel_trans hbW (bel_trans hbw1 (bel_trans hg2 hg3)))
    clear hg2 hg3
    go_wp2
    go_ret
    exact ⟨rfl, B3.out⟩
  · go_wp2_with fail
    refine (H3.out _).mono ?_
    rintro e w2 ⟨rfl, hg2⟩
    have pa0 := cell_later hg2 na0
    have pa1 := cell_later hg2 na1
    have pa2 := cell_later hg2 na2
    have pa3 := cell_later hg2 na3
    have pb0 := cell_later hg2 nb0
    have pb1 := cell_later hg2 nb1
    have pb2 := cell_later hg2 nb2
    have pb3 := cell_later hg2 nb3
    have pc0 := cell_later hg2 nc0
    have pc1 := cell_later hg2 nc1
    have pc2 := cell_later hg2 nc2
    have pc3 := cell_later hg2 nc3
    clear na0 na1 na2 na3 nb0 nb1 nb2 nb3 nc0 nc1 nc2 nc3
    go_wp2_with fail
    refine (A.out _).mono ?_
    rintro e w3 ⟨rfl, hg3⟩
    have qa0 := cell_later hg3 pa0
    have qa1 := cell_later hg3 pa1
    have qa2 := cell_later hg3 pa2
    have qa3 := cell_later hg3 pa3
    have qb0 := cell_later hg3 pb0
    have qb1 := cell_later hg3 pb1
    have qb2 := cell_later hg3 pb2
    have qb3 := cell_later hg3 pb3
    have qc0 := cell_later hg3 pc0
    have qc1 := cell_later hg3 pc1
    have qc2 := cell_later hg3 pc2
    have qc3 := cell_later hg3 pc3
    clear pa0 pa1 pa2 pa3 pb0 pb1 pb2 pb3 pc0 pc1 pc2 pc3
    have B3 := Lib.hid (bel_trans hbW (bel_trans hbw1 (bel_trans hg2 hg3)))
    clear hg2 hg3
    go_wp2
    go_ret
    exact ⟨rfl, B3.out⟩

theorem walk_order (o d t s o' d' t' s' o'' d'' t'' s'' : Int) (w : World) :
    Calls Try.prog 6 #[.agg #[.int .i64 o, .int .i64 d, .int .i64 t, .int .i64 s], .agg #[.int .i64 o', .int .i64 d', .int .i64 t', .int .i64 s'], .agg #[.int .i64 o'', .int .i64 d'', .int .i64 t'', .int .i64 s'']] w fun e w' => e = .returned (.bool true) ∧ Below w.heap.size w w' := by
  refine order_core o d t s o' d' t' s' o'' d'' t'' s'' _ _ _ _ _ _ w (fun w => better_any o d t s o' d' t' s' w) (fun w => better_any o' d' t' s' o d t s w)
    (fun w => by have := better_any o d t s o d t s w; rwa [bet_self] at this) (fun w => better_any o' d' t' s' o'' d'' t'' s'' w) (fun w => better_any o d t s o'' d'' t'' s'' w) rfl rfl ?_ ?_
  · cases h1 : bet d t d' t' with
    | true =>
      rw [bet_not h1]
      have : ¬ (d = d' ∧ t = t') := fun ⟨a, b⟩ => by subst a b; rw [bet_self] at h1; cases h1
      by_cases a : d = d' <;> by_cases b : t = t' <;> simp_all
    | false =>
      cases h2 : bet d' t' d t with
      | true =>
        have : ¬ (d = d' ∧ t = t') := fun ⟨a, b⟩ => by subst a b; rw [bet_self] at h2; cases h2
        by_cases a : d = d' <;> by_cases b : t = t' <;> simp_all
      | false => obtain ⟨rfl, rfl⟩ := bet_same h1 h2; simp
  · cases h1 : bet d t d' t' with
    | false => rfl
    | true =>
      cases h2 : bet d' t' d'' t'' with
      | false => rfl
      | true => rw [bet_on h1 h2]; rfl
end Go.Proofs.Ytanoaelgaabmgaa
