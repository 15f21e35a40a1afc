/- The document's clock: New, At, Adjust. -/
import Derived.Test.YtnooneejidpdaaaAdj
namespace Go.Proofs.Ytnooneejidpdaaa
open Go.RowKit

set_option maxHeartbeats 1000000 in
theorem rnew_ok (h c p : Int) (w : World) (f : Fit h c p) :
    Calls Try.prog 11 #[.int .i64 h, .int .i64 c, .int .i64 p] w fun e w' => e = .returned (.tuple #[.pointer (some ⟨w.heap.size, 0, none⟩), .int .i64 0]) ∧ Clk 42 w' w.heap.size ⟨p, h, c, 0, 0⟩ ∧ Below w.heap.size w w' := by
  obtain ⟨h1, h2, h3, h4, h5, h6⟩ := f
  go_enter Try.func11, Try.ntmps11
  go_wp2
  go_ret2
  exact ⟨rfl, heap_alloc_new w _, (Below.refl _ _).alloc (Nat.le_refl _) _⟩
set_option maxHeartbeats 1000000 in
theorem rnew_bad (h c p : Int) (w : World) (f : ¬ Fit h c p) :
    Calls Try.prog 11 #[.int .i64 h, .int .i64 c, .int .i64 p] w fun e w' => e = .returned (.tuple #[.pointer none, .int .i64 3]) ∧ w = w' := by
  have F := Lib.hid f
  clear f
  go_enter Try.func11, Try.ntmps11
  go_wp2
  all_goals first
    | (go_ret2; exact ⟨rfl, rfl⟩)
    | (exfalso; exact F.out (by unfold Fit; omega))
    | (rename_i hx; simp only [decide_eq_false_iff_not] at hx; exfalso; exact F.out (by unfold Fit; omega))

/-- What the document's At tells. -/
def AtPost (k : Ck) (x : Int) (e : Ending) : Prop := e = .returned (.tuple #[.int .i64 (rd k x), .int .i64 (lf k x), .int .i64 (sl k x), .int .i64 (k.err x)])

theorem results_tmp4 {P : Program} {fn : Func} {s t u v : Tmp} (h : fn.results = #[.tmp s, .tmp t, .tmp u, .tmp v]) (tmps : Array Value) (w : World) :
    (results fn tmps).run P w = .ok (.tuple #[tmps.getD s undef, tmps.getD t undef, tmps.getD u undef, tmps.getD v undef]) w := by
  simp [results, h]
theorem rat_far (b : Nat) (x : Int) (w : World) (hh : 4611686018427387903 < x) : Calls Try.prog 18 #[.pointer (some ⟨b, 0, none⟩), .int .i64 x] w fun e w' => e = .returned (.tuple #[.int .i64 0, .int .i64 0, .int .i64 0, .int .i64 3]) ∧ Below w.heap.size w w' := by
  go_enter Try.func18, Try.ntmps18
  go_wp2
  exact bodyPost_ret (results_tmp4 rfl _ _) rfl ⟨rfl, Below.refl _ _⟩
theorem rat_early (b : Nat) (h x : Int) (w : World) (f1 : w.cell? ⟨b, 1, none⟩ = some (.int .i64 h)) (h1 : x ≤ 4611686018427387903) (h2 : x < h) : Calls Try.prog 18 #[.pointer (some ⟨b, 0, none⟩), .int .i64 x] w fun e w' => e = .returned (.tuple #[.int .i64 0, .int .i64 0, .int .i64 0, .int .i64 8]) ∧ Below w.heap.size w w' := by
  have d : decide (x < h) = true := decide_eq_true h2
  go_enter Try.func18, Try.ntmps18
  go_wp2
  exact bodyPost_ret (results_tmp4 rfl _ _) rfl ⟨rfl, Below.refl _ _⟩
theorem rat_num (d r : Int) (h0 : 0 ≤ d) (h2 : d ≤ 4611686018427387903) (r1 : 1 ≤ r) (r2 : r ≤ 500) : wrap64 (wrap64 (d / 1000000 * r) + wrap64 ((wrap64 (d % 1000000 * r)).tdiv 1000000)) = fl d r := by
  have a1 := fl_nn h0 (show 0 ≤ r by omega)
  have a2 := fl_le h0 r2
  rw [fl_ref (d := d) (r := r)] at *
  have p1 : 0 ≤ d / 1000000 * r := Int.mul_nonneg (by omega) (by omega)
  have p2 : d / 1000000 * r ≤ d / 1000000 * 500 := Int.mul_le_mul_of_nonneg_left r2 (by omega)
  have p3 : 0 ≤ d % 1000000 * r := Int.mul_nonneg (by omega) (by omega)
  have p4 : d % 1000000 * r ≤ d % 1000000 * 500 := Int.mul_le_mul_of_nonneg_left r2 (by omega)
  generalize d / 1000000 * r = u at *
  generalize d % 1000000 * r = v at *
  rw [IntWalk.wrap64_in v ⟨by omega, by omega⟩, Int.tdiv_eq_ediv_of_nonneg p3, IntWalk.wrap64_in u ⟨by omega, by omega⟩, IntWalk.wrap64_in (v / 1000000) ⟨by omega, by omega⟩, IntWalk.wrap64_in _ ⟨by omega, by omega⟩]
def ab (l : Int) : Int := if l < 0 then -l else l
theorem rab_any (l : Int) (w : World) (l1 : -2305843009213693952 ≤ l) (l2 : l ≤ 2305843009213693952) : Calls Try.prog 31 #[.int .i64 l] w fun e w' => e = .returned (.int .i64 (ab l)) ∧ w = w' := by
  have := rabs_any l w (by omega) (by omega)
  unfold ab
  rwa [stp_in (by split <;> omega) (by split <;> omega)] at this
set_option maxRecDepth 100000 in
set_option maxHeartbeats 2000000 in
theorem rat_in (b : Nat) (r h c l a x n y : Int) (w : World) (f0 : w.cell? ⟨b, 0, none⟩ = some (.int .i64 r)) (f1 : w.cell? ⟨b, 1, none⟩ = some (.int .i64 h)) (f2 : w.cell? ⟨b, 2, none⟩ = some (.int .i64 c)) (f3 : w.cell? ⟨b, 3, none⟩ = some (.int .i64 l)) (f4 : w.cell? ⟨b, 4, none⟩ = some (.int .i64 a))
    (h0 : 0 ≤ h) (h1 : h ≤ x) (h2 : x ≤ 4611686018427387903) (r1 : 1 ≤ r) (r2 : r ≤ 500) (l1 : -2305843009213693952 ≤ l) (l2 : l ≤ 2305843009213693952)
    (hn : n = fl (x - h) r) (hy : y = kept l (-n) n)
    (c1 : -9223372036854775808 ≤ c + (x - h)) (c2 : c + (x - h) ≤ 9223372036854775807) (c3 : -9223372036854775808 ≤ c + (x - h) + y) (c4 : c + (x - h) + y ≤ 9223372036854775807)
    (l3 : -9223372036854775808 ≤ l - y) (l4 : l - y ≤ 9223372036854775807) (a1 : -9223372036854775808 ≤ a + y) (a2 : a + y ≤ 9223372036854775807) :
    Calls Try.prog 18 #[.pointer (some ⟨b, 0, none⟩), .int .i64 x] w fun e w' => e = .returned (.tuple #[.int .i64 (c + (x - h) + y), .int .i64 (l - y), .int .i64 (a + y), .int .i64 0]) ∧ Below w.heap.size w w' := by
  have d : decide (x < h) = false := decide_eq_false (by omega)
  have E := Lib.hid ((rat_num (x - h) r (by omega) (by omega) r1 r2).trans hn.symm)
  have n1 : 0 ≤ n := by rw [hn]; exact fl_nn (by omega) (by omega)
  have n2 : 2000 * n ≤ x - h := by rw [hn]; exact fl_le (by omega) r2
  have KA := Lib.hid (fun w => rab_any l w l1 l2)
  obtain ⟨A, hA⟩ : ∃ A, A = ab l := ⟨_, rfl⟩
  rw [← hA] at KA
  unfold ab at hA
  unfold kept at hy
  clear hn
  by_cases hl : l < 0
  · rw [if_pos hl] at hA
    have dl : decide (l < 0) = true := decide_eq_true hl
    by_cases hAn : A < n
    · have dn : decide (A < n) = true := decide_eq_true hAn
      rw [if_neg (by omega), if_neg (by omega)] at hy
      have Y := Lib.hid (show wrap64 (-A) = y from by rw [IntWalk.wrap64_in _ ⟨by omega, by omega⟩]; omega)
      clear hy hA
      go_enter Try.func18, Try.ntmps18
      go_wp2
      go_quiet (fail)
      rw [E.out]
      go_wp2_with (go_at_call 31; refine (KA.out _).mono ?_; rintro e w2 ⟨rfl, rfl⟩)
      rw [Y.out]
      go_quiet (fail)
      go_wp2
      exact bodyPost_ret (results_tmp4 rfl _ _) rfl ⟨rfl, ⟨rfl, rfl, rfl, Nat.le_refl _, fun _ _ => rfl⟩⟩
    · have dn : decide (A < n) = false := decide_eq_false hAn
      have hy2 : y = -n := by
        by_cases q : l < -n
        · rw [if_pos q] at hy; exact hy
        · rw [if_neg q, if_neg (by omega)] at hy; omega
      have Y := Lib.hid (show -n = y from hy2.symm)
      clear hy hA hy2
      go_enter Try.func18, Try.ntmps18
      go_wp2
      go_quiet (fail)
      rw [E.out]
      go_wp2_with (go_at_call 31; refine (KA.out _).mono ?_; rintro e w2 ⟨rfl, rfl⟩)
      rw [Y.out]
      go_quiet (fail)
      go_wp2
      exact bodyPost_ret (results_tmp4 rfl _ _) rfl ⟨rfl, ⟨rfl, rfl, rfl, Nat.le_refl _, fun _ _ => rfl⟩⟩
  · rw [if_neg hl] at hA
    have dl : decide (l < 0) = false := decide_eq_false hl
    by_cases hAn : A < n
    · have dn : decide (A < n) = true := decide_eq_true hAn
      rw [if_neg (by omega), if_neg (by omega)] at hy
      obtain rfl : A = y := by omega
      have Y := Lib.hid hy
      clear hy hA
      go_enter Try.func18, Try.ntmps18
      go_wp2
      go_quiet (fail)
      rw [E.out]
      go_wp2_with (go_at_call 31; refine (KA.out _).mono ?_; rintro e w2 ⟨rfl, rfl⟩)
      go_quiet (fail)
      go_wp2
      exact bodyPost_ret (results_tmp4 rfl _ _) rfl ⟨rfl, ⟨rfl, rfl, rfl, Nat.le_refl _, fun _ _ => rfl⟩⟩
    · have dn : decide (A < n) = false := decide_eq_false hAn
      have hy2 : y = n := by
        rw [if_neg (by omega)] at hy
        by_cases q : n < l
        · rw [if_pos q] at hy; exact hy
        · rw [if_neg q] at hy; omega
      subst hy2
      clear hy hA
      go_enter Try.func18, Try.ntmps18
      go_wp2
      go_quiet (fail)
      rw [E.out]
      go_wp2_with (go_at_call 31; refine (KA.out _).mono ?_; rintro e w2 ⟨rfl, rfl⟩)
      go_quiet (fail)
      go_wp2
      exact bodyPost_ret (results_tmp4 rfl _ _) rfl ⟨rfl, ⟨rfl, rfl, rfl, Nat.le_refl _, fun _ _ => rfl⟩⟩

theorem rat_any (b : Nat) (k : Ck) (x : Int) (w : World) (hc : Clk 42 w b k) (o : k.Ok) :
    Calls Try.prog 18 #[.pointer (some ⟨b, 0, none⟩), .int .i64 x] w fun e w' => e = .returned (.tuple #[.int .i64 (rd k x), .int .i64 (lf k x), .int .i64 (sl k x), .int .i64 (k.err x)]) ∧ Below w.heap.size w w' := by
  obtain ⟨f0, f1, f2, f3, f4⟩ := hc.facts
  unfold rd lf sl
  by_cases e : k.err x = 0
  · rw [if_pos e, if_pos e, if_pos e, e]
    obtain ⟨h1, h2⟩ := Ck.err_ok e
    have o' := o.now h1 h2
    have g1 := cor_ge (l := k.l) (d := x - k.h) (r := k.r) (by omega) (by have := o.r1; omega)
    have g2 := cor_le (l := k.l) (d := x - k.h) (r := k.r) (by omega) (by have := o.r1; omega)
    have g3 := fl_le (d := x - k.h) (r := k.r) (by omega) o.r2
    obtain ⟨r1, r2, a1, a2, l1, l2, b1, b2, c1, c2⟩ := o
    obtain ⟨r1', r2', a1', a2', l1', l2', b1', b2', c1', c2'⟩ := o'
    simp only [Ck.now] at *
    exact rat_in b k.r k.h k.c k.l k.a x (fl (x - k.h) k.r) (cor k.l (x - k.h) k.r) w f0 f1 f2 f3 f4 a1 h1 h2 r1 r2 l1 l2 rfl rfl (by omega) (by omega) (by omega) (by omega) (by omega) (by omega) (by omega) (by omega)
  · rw [if_neg e, if_neg e, if_neg e]
    unfold Ck.err at *
    by_cases h : 4611686018427387903 < x
    · rw [if_pos h]; exact rat_far b x w h
    · rw [if_neg h] at e ⊢
      by_cases h' : x < k.h
      · rw [if_pos h']; exact rat_early b k.h x w f1 (by omega) h'
      · rw [if_neg h'] at e; exact absurd rfl e

theorem radjust_bad (y z x : Int) (p : Value) (w : World) (hz : z ≠ 0) (HA : Calls Try.prog 18 #[p, .int .i64 x] w fun e w' => e = .returned (.tuple #[.int .i64 0, .int .i64 0, .int .i64 0, .int .i64 z]) ∧ Below w.heap.size w w') :
    Calls Try.prog 14 #[p, .int .i64 x, .int .i64 y] w fun e w' => e = .returned (.int .i64 z) ∧ Below w.heap.size w w' := by
  have KA := Lib.hid HA
  clear HA
  have hd : (z != 0) = true := by simp [hz]
  go_enter Try.func14, Try.ntmps14
  go_wp2_with fail
  refine KA.out.mono ?_
  rintro e w1 ⟨rfl, hb1⟩
  have HB := Lib.hid hb1
  clear hb1
  go_wp2
  go_ret
  exact ⟨rfl, HB.out⟩

set_option maxRecDepth 100000 in
set_option maxHeartbeats 1000000 in
theorem radjust_in (b : Nat) (r h c l a x y nc nl na : Int) (w : World) (hc : w.heap[b]? = some (.cells #[.int .i64 r, .int .i64 h, .int .i64 c, .int .i64 l, .int .i64 a] 42 (0, 0)))
    (HA : Calls Try.prog 18 #[.pointer (some ⟨b, 0, none⟩), .int .i64 x] w fun e w' => e = .returned (.tuple #[.int .i64 nc, .int .i64 nl, .int .i64 na, .int .i64 0]) ∧ Below w.heap.size w w') :
    Calls Try.prog 14 #[.pointer (some ⟨b, 0, none⟩), .int .i64 x, .int .i64 y] w fun e w' => e = .returned (.int .i64 0) ∧ w'.heap[b]? = some (.cells #[.int .i64 r, .int .i64 x, .int .i64 nc, .int .i64 (kept y (-2305843009213693952) 2305843009213693952), .int .i64 na] 42 (0, 0)) ∧ But b w w' := by
  have KA := Lib.hid HA
  have L := Lib.hid (fun w => rclamp_any y (-2305843009213693952) 2305843009213693952 w)
  have hlt := (Array.getElem?_eq_some_iff.1 hc).1
  have HC := Lib.hid hc
  clear HA hc
  generalize kept y (-2305843009213693952) 2305843009213693952 = q at *
  go_enter Try.func14, Try.ntmps14
  go_wp2_with fail
  refine KA.out.mono ?_
  rintro e w1 ⟨rfl, hb1⟩
  have G := Lib.hid ((hb1.block b hlt).trans HC.out)
  have hl1 : b < w1.heap.size := Nat.lt_of_lt_of_le hlt hb1.size
  have f1 : w1.cell? ⟨b, 1, none⟩ = some (.int .i64 h) := cell_of_row _ _ 1 _ _ _ G.out
  have f2 : w1.cell? ⟨b, 2, none⟩ = some (.int .i64 c) := cell_of_row _ _ 2 _ _ _ G.out
  have f3 : w1.cell? ⟨b, 3, none⟩ = some (.int .i64 l) := cell_of_row _ _ 3 _ _ _ G.out
  have f4 : w1.cell? ⟨b, 4, none⟩ = some (.int .i64 a) := cell_of_row _ _ 4 _ _ _ G.out
  have p1 : w1.frozen? ⟨b, 1, none⟩ = false := frozen_row G.out 1
  have p2 : w1.frozen? ⟨b, 2, none⟩ = false := frozen_row G.out 2
  have p3 : w1.frozen? ⟨b, 3, none⟩ = false := frozen_row G.out 3
  have p4 : w1.frozen? ⟨b, 4, none⟩ = false := frozen_row G.out 4
  have HB := Lib.hid hb1
  clear hb1
  go_wp2_with fail
  refine (L.out _).mono ?_
  rintro e w2 ⟨rfl, rfl⟩
  go_wp2
  go_ret
  refine ⟨rfl, ?_, ?_⟩
  · have q1 := heap_setCell_same w1 b 1 (.int .i64 x) _ _ _ G.out
    have q2 := heap_setCell_same _ b 2 (.int .i64 nc) _ _ _ q1
    have q3 := heap_setCell_same _ b 4 (.int .i64 na) _ _ _ q2
    have q4 := heap_setCell_same _ b 3 (.int .i64 q) _ _ _ q3
    exact q4
  · exact (((((But.of_below HB.out).setCell 1 _).setCell 2 _).setCell 4 _).setCell 3 _)
theorem radjust_any (b : Nat) (k : Ck) (x y : Int) (w : World) (hc : Clk 42 w b k) (o : k.Ok) : Calls Try.prog 14 #[.pointer (some ⟨b, 0, none⟩), .int .i64 x, .int .i64 y] w fun e w' => e = .returned (.int .i64 (k.err x)) ∧ Clk 42 w' b (k.put x y) ∧ But b w w' := by
  have := rat_any b k x w hc o
  unfold Ck.put
  unfold rd lf sl at this
  by_cases e : k.err x = 0
  · rw [if_pos e, if_pos e, if_pos e, e] at this
    rw [if_pos e, e]
    exact radjust_in b k.r k.h k.c k.l k.a x y _ _ _ w hc this
  · rw [if_neg e, if_neg e, if_neg e] at this
    rw [if_neg e]
    refine (radjust_bad y _ x _ w e this).mono ?_
    rintro _ w' ⟨rfl, hb⟩
    exact ⟨rfl, hc.below hb, But.of_below hb⟩
end Go.Proofs.Ytnooneejidpdaaa
