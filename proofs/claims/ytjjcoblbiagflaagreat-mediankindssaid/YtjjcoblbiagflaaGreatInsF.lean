/- insertionSortOrdered at float64. -/
import Derived.Test.YtjjcoblbiagflaaGreatKf64
namespace Go.Proofs.YtjjcoblbiagflaaGreat.kf
open Go.RowKit

set_option maxRecDepth 100000 in
set_option maxHeartbeats 4000000 in
theorem ins_any (B n cap a b : Nat) (tl : Array Value) (d : Array A) (w : World) (h : Rw enc T tl w B d) (hn : d.size = n) (hs : n ≤ 1000000) (hab : a ≤ b) (hb : b ≤ n) :
    Calls Tryz.prog 45 #[.slice (some ⟨B, 0, none⟩) n cap, .int .i64 a, .int .i64 b] w fun e w' => e = .returned (.tuple #[]) ∧ Rw enc T tl w' B (Sort.insertionSort lt d a b) ∧ But B w w' := by
  unfold Sort.insertionSort
  have KL := Lib.hid less_any
  have H0 := Lib.hid (And.intro h (And.intro (But.refl B w) hn))
  obtain ⟨D, hD⟩ : ∃ D, D = Sort.insOuter lt a b (a + 1) d := ⟨_, rfl⟩
  have HD := Lib.hid hD
  rw [← hD]
  clear h hn hD
  go_enter Tryz.func45, Tryz.ntmps45
  go_wp2
  go_loopw [6] (fun v6 wr => ∃ (i : Nat) (d' : Array A), a + 1 ≤ i ∧ i ≤ b + 1 ∧ v6 = .int .i64 (i : Int) ∧ Hid (D = Sort.insOuter lt a b i d') ∧ Hid (Rw enc T tl wr B d' ∧ But B w wr ∧ d'.size = n)) (fun s _ => b + 1 - (intOf s).toNat)
  case atStart => exact ⟨a + 1, d, by omega, by omega, by go_num, HD, H0⟩
  case round =>
    clear H0 HD
    obtain ⟨i, d1, hi1, hi2, rfl, E, R⟩ := hrel
    by_cases hib : i < b
    · have hst := E.out
      rw [Sort.insOuter, if_pos hib] at hst
      obtain ⟨D1, hD1⟩ : ∃ D1, D1 = Sort.insInner lt a i d1 := ⟨_, rfl⟩
      have E1 := Lib.hid (show D1 = Sort.insInner lt a i d1 ∧ D = Sort.insOuter lt a b (i + 1) D1 from ⟨hD1, by rw [hD1]; exact hst⟩)
      clear hst E hD1
      go_wp2
      go_loopw [7] (fun v7 wr => ∃ (j : Nat) (d2 : Array A), j ≤ i ∧ v7 = .int .i64 (j : Int) ∧ Hid (D1 = Sort.insInner lt a j d2) ∧ Hid (Rw enc T tl wr B d2 ∧ But B w wr ∧ d2.size = n)) (fun s _ => (intOf s).toNat)
      case atStart => exact ⟨i, d1, Nat.le_refl _, rfl, Lib.hid E1.out.1, R⟩
      case round =>
        have E2 := Lib.hid E1.out.2
        clear R E1
        obtain ⟨j, d2, hj, rfl, E, R⟩ := hrel
        by_cases haj : a < j
        · obtain ⟨k, rfl⟩ : ∃ k, j = k + 1 := ⟨j - 1, by omega⟩
          have hst := E.out
          rw [Sort.insInner] at hst
          have hk : k + 1 < d2.size := by have := R.out.2.2; omega
          have f1 := R.out.1.cell (k + 1) hk
          have f2 := R.out.1.cell k (by omega)
          obtain ⟨c, hcc⟩ : ∃ c, c = lt d2[k + 1]! d2[k]! := ⟨_, rfl⟩
          have K1 := Lib.hid (fun w => KL.out d2[k + 1]! d2[k]! w)
          rw [← hcc] at K1 hst
          have g1 := R.out.1.frozen (k + 1)
          have g2 := R.out.1.frozen k
          have RS := Lib.hid (fun W (h : Rw enc T tl W B d2) => h.swapped (k + 1) k hk (by omega))
          have R3 := Lib.hid (fun W (h : Rw enc T tl W B d2) => h.third (k + 1) k hk (by omega) d2[k]!)
          obtain ⟨v1, hv1⟩ := enc_ex d2[k + 1]!
          obtain ⟨v2, hv2⟩ := enc_ex d2[k]!
          have HV := Lib.hid (show (∀ W, Rw enc T tl W B d2 → W.cell? ⟨B, k + 1, none⟩ = some (.float .f64 v1)) ∧ (∀ W, Rw enc T tl W B d2 → W.cell? ⟨B, k, none⟩ = some (.float .f64 v2)) from ⟨fun W h => by rw [← hv1]; exact h.cell _ hk, fun W h => by rw [← hv2]; exact h.cell _ (by omega)⟩)
          rw [hv1] at f1 K1 RS
          rw [hv2] at f2 K1 RS R3
          have i1 : (k : Int) + 1 < (n : Int) := by have := R.out.2.2; omega
          have hd : decide ((a : Int) < (k : Int) + 1) = true := decide_eq_true (by omega)
          have e1 := fun d os => cell_regrown f1 d os
          have e2 := fun d os => cell_regrown f2 d os
          have r1 : ∀ d' os, Calls Tryz.prog 51 #[(.float .f64 v1), (.float .f64 v2)] (Sort.grow (redrawn wr d') os) fun e w'' => e = .returned (.bool c) ∧ ∃ p : Regrown, w'' = Sort.grow (redrawn wr p.d) p.os := fun d' os => Calls.regrown_of ((K1.out _).mono fun _ _ h => ⟨h.1, by rw [h.2]; exact Below.refl _ _⟩)
          clear hv1 hv2 hcc K1 f1 f2 g1 g2
          cases c with
          | true =>
            rw [if_pos (by simp; omega)] at hst
            have HST := Lib.hid hst
            clear hst
            go_wp2
            refine wp_region_quiet_below (by kernel_rfl) (by kernel_rfl) ?_
            repeat (go_big_quiet_step (with_reducible exact r1 _ _))
            refine wpQuiet_nil ?_
            intro W hw'
            have hbW : Below wr.heap.size wr W := by
              obtain ⟨⟨dq, osq⟩, hw''⟩ := hw'
              rw [hw'']; exact below_regrown _ dq osq
            have R2 := Lib.hid (And.intro (R.out.1.below hbW) (And.intro (R.out.2.1.trans (But.of_below hbW)) R.out.2.2))
            clear hw' hbW r1 e1 e2 R
            have f1 : W.cell? ⟨B, k + 1, none⟩ = some (.float .f64 v1) := HV.out.1 W R2.out.1
            have f2 : W.cell? ⟨B, k, none⟩ = some (.float .f64 v2) := HV.out.2 W R2.out.1
            have g1 := R2.out.1.frozen (k + 1)
            have g2 := R2.out.1.frozen k
            obtain ⟨v3, u3⟩ := R3.out W R2.out.1
            have S := Lib.hid (RS.out W R2.out.1)
            clear R3 RS KL
            go_wp2_with fail
            go_region
            have R4 := Lib.hid (show Rw enc T tl _ B (Sort.swp d2 (k + 1) k) ∧ But B w _ ∧ (Sort.swp d2 (k + 1) k).size = n from ⟨S.out.1, R2.out.2.1.trans S.out.2, by rw [Sort.size_swp]; exact R2.out.2.2⟩)
            clear f1 f2 g1 g2 u3 S R2 HV
            go_wp2
            go_roundw
            case rel => exact ⟨k, Sort.swp d2 (k + 1) k, by omega, by go_num, HST, R4⟩
            case measure => simp [intOf]
          | false =>
            rw [if_neg (by simp)] at hst
            have HST := Lib.hid hst
            clear hst
            go_wp2
            refine wp_region_quiet_below (by kernel_rfl) (by kernel_rfl) ?_
            repeat (go_big_quiet_step (with_reducible exact r1 _ _))
            refine wpQuiet_nil ?_
            intro W hw'
            have hbW : Below wr.heap.size wr W := by
              obtain ⟨⟨dq, osq⟩, hw''⟩ := hw'
              rw [hw'']; exact below_regrown _ dq osq
            have R2 := Lib.hid (And.intro (R.out.1.below hbW) (And.intro (R.out.2.1.trans (But.of_below hbW)) R.out.2.2))
            clear hw' hbW r1 e1 e2 R
            have R4 : Hid (Rw enc T tl W B D1 ∧ But B w W ∧ D1.size = n) := by rw [HST.out]; exact R2.out
            clear R2 HST R3 RS KL HV
            go_wp2
            exact ⟨⟨i + 1, D1, by omega, by omega, by go_num, E2, R4⟩, by simp [intOf]; omega⟩
        · have hst := E.out
          have e : D1 = d2 := by
            rw [hst]
            cases j with
            | zero => rfl
            | succ k => rw [Sort.insInner, if_neg (by simp; omega)]
          have R4 : Hid (Rw enc T tl wr B D1 ∧ But B w wr ∧ D1.size = n) := by rw [e]; exact R.out
          have hd : decide ((a : Int) < (j : Int)) = false := decide_eq_false (by omega)
          clear E R hst e KL
          go_wp2
          refine wp_region_quiet_below (by kernel_rfl) (by kernel_rfl) ?_
          repeat (go_big_quiet_step (fail))
          refine wpQuiet_nil ?_
          intro W hw'
          have hbW : Below wr.heap.size wr W := by
            obtain ⟨⟨dq, osq⟩, hw''⟩ := hw'
            rw [hw'']; exact below_regrown _ dq osq
          have R5 := Lib.hid (And.intro (R4.out.1.below hbW) (And.intro (R4.out.2.1.trans (But.of_below hbW)) R4.out.2.2))
          clear hw' hbW R4
          go_wp2
          exact ⟨⟨i + 1, D1, by omega, by omega, by go_num, E2, R5⟩, by simp [intOf]; omega⟩
    · have hst := E.out
      rw [Sort.insOuter, if_neg hib] at hst
      have R2 := R.out
      rw [← hst] at R2
      have R3 := Lib.hid R2
      clear R E hst R2
      go_wp2
      go_end0
      exact ⟨rfl, R3.out.1, R3.out.2.1⟩
end Go.Proofs.YtjjcoblbiagflaaGreat.kf
