/- heapSortOrdered at float64 (laid by genheap.py). -/
import Derived.Test.YtjjcoblbiagflaaGreatSiftF
namespace Go.Proofs.YtjjcoblbiagflaaGreat.kf
open Go.RowKit

set_option maxRecDepth 100000 in
set_option maxHeartbeats 4000000 in
theorem heap_any (B n cap a b : Nat) (tl : Array Value) (d : Array A) (w : World) (h : Rw enc T tl w B d) (hn : d.size = n) (hs : n ≤ 1000000) (hab : a < b) (hb : b ≤ n) :
    Calls Tryz.prog 46 #[.slice (some ⟨B, 0, none⟩) n cap, .int .i64 a, .int .i64 b] w fun e w' => e = .returned (.tuple #[]) ∧ Rw enc T tl w' B (Sort.heapSort lt d a b) ∧ But B w w' := by
  unfold Sort.heapSort
  have H0 := Lib.hid (And.intro h (And.intro (But.refl B w) hn))
  obtain ⟨H, hH⟩ : ∃ H, b - a = H := ⟨_, rfl⟩
  rw [hH]
  obtain ⟨Q, hQ⟩ : ∃ Q, (H - 1) / 2 = Q := ⟨_, rfl⟩
  rw [hQ]
  have KS := Lib.hid (fun lo hi first d w (h : Rw enc T tl w B d) (hn : d.size = n) (hlo : lo ≤ n) (hh : first + hi ≤ n) => sift_any B n cap lo hi first tl d w h hn hs hlo hh)
  obtain ⟨D1, hD1⟩ : ∃ D1, D1 = Sort.heapBuild lt H a (Q + 1) d := ⟨_, rfl⟩
  rw [← hD1]
  obtain ⟨D, hD⟩ : ∃ D, D = Sort.heapPop lt a H D1 := ⟨_, rfl⟩
  rw [← hD]
  have HD1 := Lib.hid hD1
  have HD := Lib.hid hD
  have hw1 : IntKind.i64.wrap ((b : Int) - (a : Int)) = (H : Int) := by rw [IntWalk.i64_in _ (by omega)]; omega
  have hw2 : IntKind.i64.wrap ((H : Int) - 1) = (H : Int) - 1 := IntWalk.i64_in _ (by omega)
  have hq : ((H : Int) - 1).tdiv 2 = (Q : Int) := by rw [Int.tdiv_eq_ediv_of_nonneg (by omega)]; omega
  have hw3 : IntKind.i64.wrap (Q : Int) = (Q : Int) := IntWalk.i64_in _ (by omega)
  clear h hn hD hD1
  go_enter Tryz.func46, Tryz.ntmps46
  go_wp2
  go_loopw [9] (fun v9 wr => ∃ (k : Nat) (d' : Array A), k ≤ Q + 1 ∧ v9 = .int .i64 ((k : Int) - 1) ∧ Hid (D1 = Sort.heapBuild lt H a k d') ∧ Hid (Rw enc T tl wr B d' ∧ But B w wr ∧ d'.size = n)) (fun s _ => ((intOf s) + 1).toNat)
  case atStart => exact ⟨Q + 1, d, Nat.le_refl _, by go_num, HD1, H0⟩
  case round =>
    clear H0 HD1
    obtain ⟨k, d2, hk, rfl, E, R⟩ := hrel
    cases k with
    | succ k =>
      have hst := E.out
      rw [Sort.heapBuild] at hst
      have HST := Lib.hid hst
      have K1 := Lib.hid (KS.out k H a d2 wr R.out.1 R.out.2.2 (by omega) (by omega))
      have e1 : ((k + 1 : Nat) : Int) - 1 = (k : Int) := by omega
      rw [e1]
      have hd1 : decide ((0 : Int) ≤ (k : Int)) = true := decide_eq_true (by omega)
      clear hst e1
      go_wp2_with fail
      refine K1.out.mono ?_
      rintro e w2 ⟨rfl, hr2, hb2, hs2⟩
      have R2 := Lib.hid (And.intro hr2 (And.intro (R.out.2.1.trans hb2) hs2))
      clear hr2 hb2 hs2 R K1 E
      go_wp2
      go_roundw
      case rel => exact ⟨k, _, by omega, by go_num, HST, R2⟩
      case measure => simp [intOf]
    | zero =>
      have hst := E.out
      rw [Sort.heapBuild] at hst
      have R2 := R.out
      rw [← hst] at R2
      have R3 := Lib.hid R2
      clear R E hst R2
      rw [show ((0 : Nat) : Int) - 1 = -1 from rfl]
      go_wp2
      go_loopw [10] (fun v10 wr => ∃ (k : Nat) (d' : Array A), k ≤ H ∧ v10 = .int .i64 ((k : Int) - 1) ∧ Hid (D = Sort.heapPop lt a k d') ∧ Hid (Rw enc T tl wr B d' ∧ But B w wr ∧ d'.size = n)) (fun s _ => ((intOf s) + 1).toNat)
      case atStart => exact ⟨H, D1, Nat.le_refl _, rfl, HD, R3⟩
      case round =>
        clear R3 HD
        obtain ⟨k, d2, hk, rfl, E, R⟩ := hrel
        cases k with
        | succ k =>
          have hst := E.out
          rw [Sort.heapPop] at hst
          have HST := Lib.hid hst
          have e1 : ((k + 1 : Nat) : Int) - 1 = (k : Int) := by omega
          rw [e1]
          have hd1 : decide ((0 : Int) ≤ (k : Int)) = true := decide_eq_true (by omega)
          have hsz := R.out.2.2
          clear hst e1 E
          go_wp2_with fail
          obtain ⟨y1, hy1⟩ := enc_ex d2[a]!
          obtain ⟨y2, hy2⟩ := enc_ex d2[a + k]!
          have f1 : wr.cell? ⟨B, a, none⟩ = some (.float .f64 y1) := by rw [← hy1]; exact R.out.1.cell (a) (by omega)
          have f2 : wr.cell? ⟨B, a + k, none⟩ = some (.float .f64 y2) := by rw [← hy2]; exact R.out.1.cell (a + k) (by omega)
          have g1 := R.out.1.frozen (a)
          have g2 := R.out.1.frozen (a + k)
          obtain ⟨v3, u3⟩ := R.out.1.third (a) (a + k) (by omega) (by omega) d2[a + k]!
          have S := Lib.hid (R.out.1.swapped (a) (a + k) (by omega) (by omega))
          rw [hy2] at u3
          rw [hy1, hy2] at S
          clear hy1 hy2
          go_wp2_with fail
          go_region
          have R4 := Lib.hid (show Rw enc T tl _ B (Sort.swp d2 (a) (a + k)) ∧ But B w _ ∧ (Sort.swp d2 (a) (a + k)).size = n from ⟨S.out.1, R.out.2.1.trans S.out.2, by rw [Sort.size_swp]; exact R.out.2.2⟩)
          clear f1 f2 g1 g2 u3 S R 
          have K1 := Lib.hid (fun w h => KS.out 0 k a (Sort.swp d2 a (a + k)) w h R4.out.2.2 (by omega) (by omega))
          go_wp2_with fail
          refine (K1.out _ R4.out.1).mono ?_
          rintro e w2 ⟨rfl, hr2, hb2, hs2⟩
          have R5 := Lib.hid (And.intro hr2 (And.intro (R4.out.2.1.trans hb2) hs2))
          clear hr2 hb2 hs2 R4 K1
          go_wp2
          go_roundw
          case rel => exact ⟨k, _, by omega, by go_num, HST, R5⟩
          case measure => simp [intOf]
        | zero =>
          have hst := E.out
          rw [Sort.heapPop] at hst
          have R2 := R.out
          rw [← hst] at R2
          have R3 := Lib.hid R2
          clear R E hst R2
          rw [show ((0 : Nat) : Int) - 1 = -1 from rfl]
          go_wp2
          go_end0
          exact ⟨rfl, R3.out.1, R3.out.2.1⟩
end Go.Proofs.YtjjcoblbiagflaaGreat.kf
