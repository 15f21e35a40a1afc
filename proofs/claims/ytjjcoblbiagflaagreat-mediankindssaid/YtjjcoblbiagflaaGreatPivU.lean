/- choosePivotOrdered at uint8 (laid by genpiv.py). -/
import Derived.Test.YtjjcoblbiagflaaGreatMedU
namespace Go.Proofs.YtjjcoblbiagflaaGreat.ku
open Go.RowKit

def hcode : Sort.Hint → Int
  | .unknown => 0
  | .increasing => 1
  | .decreasing => 2
theorem ct_new (w : World) : Ct (w.alloc (.cells #[.int .i64 0] 3 (0, 0))) w.heap.size 0 := by
  show (w.heap.push _)[w.heap.size]? = _
  simp
theorem piv_big {d : Array A} {a b Q i j k m zi zj zk z : Nat} (h8 : 8 ≤ b - a) (h50 : 50 ≤ b - a) (hQ : (b - a) / 4 = Q) (e1 : Sort.medianAdjacent lt d (a + Q) 0 = (i, zi)) (e2 : Sort.medianAdjacent lt d (a + Q * 2) zi = (j, zj)) (e3 : Sort.medianAdjacent lt d (a + Q * 3) zj = (k, zk)) (e4 : Sort.median lt d i j k zk = (m, z)) : Sort.choosePivot lt d a b = (m, if z = 0 then .increasing else if z = 12 then .decreasing else .unknown) := by
  unfold Sort.choosePivot
  simp only [hQ, Nat.mul_one, ge_iff_le, h8, h50, if_true, e1, e2, e3, e4]
theorem piv_small {d : Array A} {a b Q m z : Nat} (h8 : 8 ≤ b - a) (h50 : ¬ 50 ≤ b - a) (hQ : (b - a) / 4 = Q) (e4 : Sort.median lt d (a + Q) (a + Q * 2) (a + Q * 3) 0 = (m, z)) : Sort.choosePivot lt d a b = (m, if z = 0 then .increasing else if z = 12 then .decreasing else .unknown) := by
  unfold Sort.choosePivot
  simp only [hQ, Nat.mul_one, ge_iff_le, h8, h50, if_true, if_false, e4]

set_option maxRecDepth 100000 in
set_option maxHeartbeats 4000000 in
theorem pivot_any (B n cap a b : Nat) (tl : Array Value) (d : Array A) (w : World) (h : Rw enc T tl w B d) (hn : d.size = n) (hs : n ≤ 1000000) (hab : a + 12 < b) (hb : b ≤ n) :
    Calls Tryz.prog 57 #[.slice (some ⟨B, 0, none⟩) n cap, .int .i64 a, .int .i64 b] w fun e w' => ∃ x ht, Sort.choosePivot lt d a b = (x, ht) ∧ e = .returned (.tuple #[.int .i64 (x : Nat), .int .i64 (hcode ht)]) ∧ Rw enc T tl w' B d ∧ But B w w' := by
  have hBS : B ≠ w.heap.size := by have := h.lt; omega
  have KA := Lib.hid (fun a s w' h hc ha hb hs2 => mediana_any B w.heap.size n cap a s tl d w' h hc hBS hn hs ha hb hs2)
  have KM := Lib.hid (fun a b c s w' h hc ha hb hc' hs2 => median_any B w.heap.size n cap a b c s tl d w' h hc hBS hn hs ha hb hc' hs2)
  have H := Lib.hid (And.intro (h.below (bel_alloc w (.cells #[.int .i64 0] 3 (0, 0)))) (And.intro (ct_new w) (bel_alloc w (.cells #[.int .i64 0] 3 (0, 0)))))
  obtain ⟨L, hL⟩ : ∃ L, b - a = L := ⟨_, rfl⟩
  obtain ⟨Q, hQ⟩ : ∃ Q, L / 4 = Q := ⟨_, rfl⟩
  have hw1 : IntKind.i64.wrap ((b : Int) - (a : Int)) = (L : Int) := by rw [IntWalk.i64_in _ (by omega)]; omega
  have hq : (L : Int).tdiv 4 = (Q : Int) := by rw [Int.tdiv_eq_ediv_of_nonneg (by omega)]; omega
  have hw3 : IntKind.i64.wrap (Q : Int) = (Q : Int) := IntWalk.i64_in _ (by omega)
  have hw4 : IntKind.i64.wrap ((Q : Int) * 2) = (Q : Int) * 2 := IntWalk.i64_in _ (by omega)
  have hw5 : IntKind.i64.wrap ((Q : Int) * 3) = (Q : Int) * 3 := IntWalk.i64_in _ (by omega)
  have hw6 : IntKind.i64.wrap ((a : Int) + (Q : Int)) = ((a + Q : Nat) : Int) := by rw [IntWalk.i64_in _ (by omega)]; omega
  have hw7 : IntKind.i64.wrap ((a : Int) + (Q : Int) * 2) = ((a + Q * 2 : Nat) : Int) := by rw [IntWalk.i64_in _ (by omega)]; omega
  have hw8 : IntKind.i64.wrap ((a : Int) + (Q : Int) * 3) = ((a + Q * 3 : Nat) : Int) := by rw [IntWalk.i64_in _ (by omega)]; omega
  have hd8 : decide ((8 : Int) ≤ (L : Int)) = true := decide_eq_true (by omega)
  clear h hn
  by_cases h50 : 50 ≤ L
  · have hd5 : decide ((50 : Int) ≤ (L : Int)) = true := decide_eq_true (by omega)
    go_enter Tryz.func57, Tryz.ntmps57
    go_wp2_with fail
    refine (KA.out (a + Q) 0 _ H.out.1 H.out.2.1 (by omega) (by omega) (by omega)).mono ?_
    rintro e w1 ⟨i, zi, m1, hx1, hz1, rfl, h1, k1, u1⟩
    have G1 := Lib.hid (And.intro m1 (And.intro h1 (And.intro k1 (H.out.2.2.trans (u1.below (Below.size (bel_alloc _ _)) (Nat.le_refl _))))))
    clear m1 h1 k1 u1
    go_wp2_with fail
    refine (KA.out (a + Q * 2) zi w1 G1.out.2.1 G1.out.2.2.1 (by omega) (by omega) (by omega)).mono ?_
    rintro e w2 ⟨j, zj, m1, hx2, hz2, rfl, h1, k1, u1⟩
    have G2 := Lib.hid (And.intro m1 (And.intro h1 (And.intro k1 (G1.out.2.2.2.trans (u1.below G1.out.2.2.2.size (Nat.le_refl _))))))
    clear m1 h1 k1 u1
    go_wp2_with fail
    refine (KA.out (a + Q * 3) zj w2 G2.out.2.1 G2.out.2.2.1 (by omega) (by omega) (by omega)).mono ?_
    rintro e w3 ⟨k, zk, m1, hx3, hz3, rfl, h1, k1, u1⟩
    have G3 := Lib.hid (And.intro m1 (And.intro h1 (And.intro k1 (G2.out.2.2.2.trans (u1.below G2.out.2.2.2.size (Nat.le_refl _))))))
    clear m1 h1 k1 u1
    go_wp2_with fail
    refine (KM.out i j k zk w3 G3.out.2.1 G3.out.2.2.1 (by omega) (by omega) (by omega) (by omega)).mono ?_
    rintro e w4 ⟨m, z, m1, hx4, hz4, rfl, h1, k1, u1⟩
    have G4 := Lib.hid (And.intro (piv_big (a := a) (b := b) (by omega) (by omega) (by rw [hL]; exact hQ) G1.out.1 G2.out.1 G3.out.1 m1) (And.intro h1 (And.intro k1 (G3.out.2.2.2.trans (u1.below G3.out.2.2.2.size (Nat.le_refl _))))))
    clear m1 h1 k1 u1 G1 G2 G3 KA KM H hw1 hw3 hw4 hw5 hw6 hw7 hw8 hq
    have fc := G4.out.2.2.1.cell
    by_cases hz0 : z = 0
    · have G5 := Lib.hid (G4.out.1.trans (by rw [if_pos hz0]))
      have hzi : (z : Int) = 0 := by omega
      rw [hzi] at fc
      clear hzi
      go_wp2_with fail
      go_ret2
      exact ⟨m, .increasing, G5.out, rfl, G4.out.2.1, But.of_below G4.out.2.2.2⟩
    by_cases hz1 : z = 12
    · have G5 := Lib.hid (G4.out.1.trans (by rw [if_neg hz0, if_pos hz1]))
      have hzi : (z : Int) = 12 := by omega
      rw [hzi] at fc
      clear hzi
      go_wp2_with fail
      go_ret2
      exact ⟨m, .decreasing, G5.out, rfl, G4.out.2.1, But.of_below G4.out.2.2.2⟩
    have G5 := Lib.hid (G4.out.1.trans (by rw [if_neg hz0, if_neg hz1]))
    have hn0 : ¬ ((z : Int) = 0) := by omega
    have hn1 : ¬ ((z : Int) = 12) := by omega
    go_wp2_with fail
    go_ret2
    exact ⟨m, .unknown, G5.out, rfl, G4.out.2.1, But.of_below G4.out.2.2.2⟩
  · have hd5 : decide ((50 : Int) ≤ (L : Int)) = false := decide_eq_false (by omega)
    go_enter Tryz.func57, Tryz.ntmps57
    go_wp2_with fail
    refine (KM.out (a + Q) (a + Q * 2) (a + Q * 3) 0 _ H.out.1 H.out.2.1 (by omega) (by omega) (by omega) (by omega)).mono ?_
    rintro e w4 ⟨m, z, m1, hx4, hz4, rfl, h1, k1, u1⟩
    have G4 := Lib.hid (And.intro (piv_small (a := a) (b := b) (by omega) (by omega) (by rw [hL]; exact hQ) m1) (And.intro h1 (And.intro k1 (H.out.2.2.trans (u1.below (Below.size (bel_alloc _ _)) (Nat.le_refl _))))))
    clear m1 h1 k1 u1 KA KM H hw1 hw3 hw4 hw5 hw6 hw7 hw8 hq
    have fc := G4.out.2.2.1.cell
    by_cases hz0 : z = 0
    · have G5 := Lib.hid (G4.out.1.trans (by rw [if_pos hz0]))
      have hzi : (z : Int) = 0 := by omega
      rw [hzi] at fc
      clear hzi
      go_wp2_with fail
      go_ret2
      exact ⟨m, .increasing, G5.out, rfl, G4.out.2.1, But.of_below G4.out.2.2.2⟩
    by_cases hz1 : z = 12
    · have G5 := Lib.hid (G4.out.1.trans (by rw [if_neg hz0, if_pos hz1]))
      have hzi : (z : Int) = 12 := by omega
      rw [hzi] at fc
      clear hzi
      go_wp2_with fail
      go_ret2
      exact ⟨m, .decreasing, G5.out, rfl, G4.out.2.1, But.of_below G4.out.2.2.2⟩
    have G5 := Lib.hid (G4.out.1.trans (by rw [if_neg hz0, if_neg hz1]))
    have hn0 : ¬ ((z : Int) = 0) := by omega
    have hn1 : ¬ ((z : Int) = 12) := by omega
    go_wp2_with fail
    go_ret2
    exact ⟨m, .unknown, G5.out, rfl, G4.out.2.1, But.of_below G4.out.2.2.2⟩
end Go.Proofs.YtjjcoblbiagflaaGreat.ku
