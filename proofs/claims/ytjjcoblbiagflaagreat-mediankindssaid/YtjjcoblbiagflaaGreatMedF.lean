/- order2Ordered, medianOrdered, medianAdjacentOrdered at float64 (laid by genrev.py). -/
import Derived.Test.YtjjcoblbiagflaaGreatKf64
namespace Go.Proofs.YtjjcoblbiagflaaGreat.kf
open Go.RowKit

/-- The counter's block. -/
def Ct (w : World) (S s : Nat) : Prop := w.heap[S]? = some (.cells #[.int .i64 (s : Int)] 3 (0, 0))
theorem Ct.cell {w : World} {S s : Nat} (h : Ct w S s) : w.cell? ⟨S, 0, none⟩ = some (.int .i64 (s : Int)) := by
  rw [cell_of_row _ _ 0 _ _ _ h]; rfl
theorem Ct.frozen {w : World} {S s : Nat} (h : Ct w S s) : w.frozen? ⟨S, 0, none⟩ = false := by
  unfold Ct at h
  simp [World.frozen?, h]
theorem Ct.below {w w' : World} {S s : Nat} (h : Ct w S s) (hb : Below w.heap.size w w') : Ct w' S s := (hb.block S (heap_lt h)).trans h
theorem Ct.set {w : World} {S s t : Nat} (h : Ct w S s) : Ct (w.setCell ⟨S, 0, none⟩ (.int .i64 (t : Int))) S t := by
  have := heap_setCell_same w S 0 (.int .i64 (t : Int)) _ _ _ h
  unfold Ct
  rw [this]
  rfl

set_option linter.unusedVariables false in
set_option maxRecDepth 100000 in
set_option maxHeartbeats 4000000 in
theorem order2_any (B S n cap a b s : Nat) (tl : Array Value) (d : Array A) (w : World) (h : Rw enc T tl w B d) (hc : Ct w S s) (hBS : B ≠ S) (hn : d.size = n) (hs : n ≤ 1000000) (ha : a < n) (hb : b < n) (hs2 : s ≤ 1000) :
    Calls Tryz.prog 104 #[.slice (some ⟨B, 0, none⟩) n cap, .int .i64 a, .int .i64 b, .pointer (some ⟨S, 0, none⟩)] w fun e w' => ∃ x y z, Sort.order2 lt d a b s = (x, y, z) ∧ x < n ∧ y < n ∧ z ≤ s + 1 ∧ e = .returned (.tuple #[.int .i64 (x : Nat), .int .i64 (y : Nat)]) ∧ Rw enc T tl w' B d ∧ Ct w' S z ∧ But S w w' := by
  have KL := Lib.hid less_any
  have R := Lib.hid (And.intro h (And.intro (But.refl S w) hn))
  have HC := Lib.hid hc
  have hsz := hn
  clear h hn hc
  have hw1 : IntKind.i64.wrap ((s : Int) + 1) = ((s + 1 : Nat) : Int) := by rw [IntWalk.i64_in _ (by omega)]; omega
  cases c1 : lt d[b]! d[a]! with
  | true =>
    have HE : Hid (Sort.order2 lt d a b s = (b, a, s + 1)) := Lib.hid (if_pos c1)
    go_enter Tryz.func104, Tryz.ntmps104
    obtain ⟨x1, hx1⟩ := enc_ex d[b]!
    obtain ⟨x2, hx2⟩ := enc_ex d[a]!
    have fx1 : w.cell? ⟨B, b, none⟩ = some (.float .f64 x1) := by rw [← hx1]; exact R.out.1.cell (b) (by omega)
    have fx2 : w.cell? ⟨B, a, none⟩ = some (.float .f64 x2) := by rw [← hx2]; exact R.out.1.cell (a) (by omega)
    have ex1 := fun d os => cell_regrown fx1 d os
    have ex2 := fun d os => cell_regrown fx2 d os
    have r1K := Lib.hid (fun w => KL.out d[b]! d[a]! w)
    rw [hx1, hx2, c1] at r1K
    have r1 := fun d' os => Calls.regrown_of (w := w) (d := d') (os := os) ((r1K.out _).mono fun _ _ h => ⟨h.1, by rw [h.2]; exact Below.refl _ _⟩)
    clear hx1 hx2 fx1 fx2 r1K
    go_wp2
    refine wp_region_quiet_below (by kernel_rfl) (by kernel_rfl) ?_
    repeat (go_big_quiet_step (with_reducible exact r1 _ _))
    refine wpQuiet_nil ?_
    intro W1 hw'
    have hb1 : Below w.heap.size w W1 := by
      obtain ⟨⟨dq, osq⟩, hw''⟩ := hw'
      rw [hw'']; exact below_regrown _ dq osq
    have R3 := Lib.hid (And.intro (R.out.1.below hb1) (And.intro (But.of_below (b := S) hb1) R.out.2.2))
    have HC3 := Lib.hid (HC.out.below hb1)
    clear hw' hb1 R HC KL r1 ex1 ex2 c1
    have f1 := HC3.out.cell
    have g1 := HC3.out.frozen
    have HS := Lib.hid (HC3.out.set (t := s + 1))
    go_wp2
    go_ret2
    exact ⟨b, a, s + 1, HE.out, hb, ha, Nat.le_refl _, rfl, R3.out.1.but ((But.refl S W1).setCell 0 _) hBS, HS.out, R3.out.2.1.setCell 0 _⟩
  | false =>
    have HE : Hid (Sort.order2 lt d a b s = (a, b, s)) := Lib.hid (if_neg (by rw [c1]; decide))
    go_enter Tryz.func104, Tryz.ntmps104
    obtain ⟨x1, hx1⟩ := enc_ex d[b]!
    obtain ⟨x2, hx2⟩ := enc_ex d[a]!
    have fx1 : w.cell? ⟨B, b, none⟩ = some (.float .f64 x1) := by rw [← hx1]; exact R.out.1.cell (b) (by omega)
    have fx2 : w.cell? ⟨B, a, none⟩ = some (.float .f64 x2) := by rw [← hx2]; exact R.out.1.cell (a) (by omega)
    have ex1 := fun d os => cell_regrown fx1 d os
    have ex2 := fun d os => cell_regrown fx2 d os
    have r1K := Lib.hid (fun w => KL.out d[b]! d[a]! w)
    rw [hx1, hx2, c1] at r1K
    have r1 := fun d' os => Calls.regrown_of (w := w) (d := d') (os := os) ((r1K.out _).mono fun _ _ h => ⟨h.1, by rw [h.2]; exact Below.refl _ _⟩)
    clear hx1 hx2 fx1 fx2 r1K
    go_wp2
    refine wp_region_quiet_below (by kernel_rfl) (by kernel_rfl) ?_
    repeat (go_big_quiet_step (with_reducible exact r1 _ _))
    refine wpQuiet_nil ?_
    intro W1 hw'
    have hb1 : Below w.heap.size w W1 := by
      obtain ⟨⟨dq, osq⟩, hw''⟩ := hw'
      rw [hw'']; exact below_regrown _ dq osq
    have R3 := Lib.hid (And.intro (R.out.1.below hb1) (And.intro (But.of_below (b := S) hb1) R.out.2.2))
    have HC3 := Lib.hid (HC.out.below hb1)
    clear hw' hb1 R HC KL r1 ex1 ex2 c1
    go_wp2
    go_ret2
    exact ⟨a, b, s, HE.out, ha, hb, Nat.le_succ _, rfl, R3.out.1, HC3.out, R3.out.2.1⟩

set_option maxRecDepth 100000 in
set_option maxHeartbeats 4000000 in
theorem median_any (B S n cap a b c s : Nat) (tl : Array Value) (d : Array A) (w : World) (h : Rw enc T tl w B d) (hc : Ct w S s) (hBS : B ≠ S) (hn : d.size = n) (hs : n ≤ 1000000) (ha : a < n) (hb : b < n) (hc' : c < n) (hs2 : s ≤ 900) :
    Calls Tryz.prog 89 #[.slice (some ⟨B, 0, none⟩) n cap, .int .i64 a, .int .i64 b, .int .i64 c, .pointer (some ⟨S, 0, none⟩)] w fun e w' => ∃ x z, Sort.median lt d a b c s = (x, z) ∧ x < n ∧ z ≤ s + 3 ∧ e = .returned (.int .i64 (x : Nat)) ∧ Rw enc T tl w' B d ∧ Ct w' S z ∧ But S w w' := by
  have K := Lib.hid (fun a b s w h hc ha hb hs2 => order2_any B S n cap a b s tl d w h hc hBS hn hs ha hb hs2)
  have H := Lib.hid (And.intro h (And.intro hc hn))
  obtain ⟨M, hM⟩ : ∃ M, Sort.median lt d a b c s = M := ⟨_, rfl⟩
  have HM := Lib.hid hM
  rw [hM]
  clear h hc hn hM
  go_enter Tryz.func89, Tryz.ntmps89
  go_wp2_with fail
  refine (K.out a b s w H.out.1 H.out.2.1 ha hb (by omega)).mono ?_
  rintro e w1 ⟨x1, y1, z1, m1, hx1, hy1, hz1, rfl, h1, k1, u1⟩
  have G1 := Lib.hid (And.intro m1 (And.intro h1 (And.intro k1 u1)))
  clear m1 h1 k1 u1
  go_wp2_with fail
  refine (K.out y1 c z1 w1 G1.out.2.1 G1.out.2.2.1 hy1 hc' (by omega)).mono ?_
  rintro e w2 ⟨x2, y2, z2, m2, hx2, hy2, hz2, rfl, h2, k2, u2⟩
  have G2 := Lib.hid (And.intro m2 (And.intro h2 (And.intro k2 (G1.out.2.2.2.trans u2))))
  clear m2 h2 k2 u2
  go_wp2_with fail
  refine (K.out x1 x2 z2 w2 G2.out.2.1 G2.out.2.2.1 hx1 hx2 (by omega)).mono ?_
  rintro e w3 ⟨x3, y3, z3, m3, hx3, hy3, hz3, rfl, h3, k3, u3⟩
  have G3 := Lib.hid (And.intro m3 (And.intro h3 (And.intro k3 (G2.out.2.2.2.trans u3))))
  clear m3 h3 k3 u3
  go_wp2_with fail
  go_ret
  refine ⟨y3, z3, ?_, hy3, by omega, rfl, G3.out.2.1, G3.out.2.2.1, G3.out.2.2.2⟩
  rw [← HM.out]
  unfold Sort.median
  simp only [G1.out.1, G2.out.1, G3.out.1]

set_option maxRecDepth 100000 in
set_option maxHeartbeats 4000000 in
theorem mediana_any (B S n cap a s : Nat) (tl : Array Value) (d : Array A) (w : World) (h : Rw enc T tl w B d) (hc : Ct w S s) (hBS : B ≠ S) (hn : d.size = n) (hs : n ≤ 1000000) (ha : 1 ≤ a) (hb : a + 1 < n) (hs2 : s ≤ 900) :
    Calls Tryz.prog 88 #[.slice (some ⟨B, 0, none⟩) n cap, .int .i64 a, .pointer (some ⟨S, 0, none⟩)] w fun e w' => ∃ x z, Sort.medianAdjacent lt d a s = (x, z) ∧ x < n ∧ z ≤ s + 3 ∧ e = .returned (.int .i64 (x : Nat)) ∧ Rw enc T tl w' B d ∧ Ct w' S z ∧ But S w w' := by
  obtain ⟨k, rfl⟩ : ∃ k, a = k + 1 := ⟨a - 1, by omega⟩
  unfold Sort.medianAdjacent
  simp only [Nat.add_sub_cancel]
  have K := Lib.hid (median_any B S n cap k (k + 1) (k + 1 + 1) s tl d w h hc hBS hn hs (by omega) (by omega) (by omega) hs2)
  clear h hc hn
  go_enter Tryz.func88, Tryz.ntmps88
  go_wp2_with fail
  refine K.out.mono ?_
  rintro e w1 ⟨x1, z1, m1, hx1, hz1, rfl, h1, k1, u1⟩
  have G1 := Lib.hid (And.intro m1 (And.intro h1 (And.intro k1 u1)))
  clear m1 h1 k1 u1
  go_wp2_with fail
  go_ret
  exact ⟨x1, z1, G1.out.1, hx1, hz1, rfl, G1.out.2.1, G1.out.2.2.1, G1.out.2.2.2⟩
end Go.Proofs.YtjjcoblbiagflaaGreat.kf
