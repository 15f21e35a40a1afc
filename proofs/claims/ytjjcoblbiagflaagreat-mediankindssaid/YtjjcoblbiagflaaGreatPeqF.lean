/- partitionEqualOrdered at float64 (laid by genpeq.py). -/
import Derived.Test.YtjjcoblbiagflaaGreatPartF
namespace Go.Proofs.YtjjcoblbiagflaaGreat.kf
open Go.RowKit

theorem eloop_stop {d : Array A} {a i j I J : Nat} (hI : I = Sort.scanUp (fun x => !lt d[a]! x) d j i) (hJ : J = Sort.scanDown (fun x => lt d[a]! x) d I j) (h : J < I) : Sort.partEqLoop lt a i j d = (I, d) := by
  subst hJ hI
  rw [Sort.partEqLoop_eq, if_pos h]
theorem eloop_go {d : Array A} {a i j I J : Nat} (hI : I = Sort.scanUp (fun x => !lt d[a]! x) d j i) (hJ : J = Sort.scanDown (fun x => lt d[a]! x) d I j) (h : ¬ J < I) : Sort.partEqLoop lt a i j d = Sort.partEqLoop lt a (I + 1) (J - 1) (Sort.swp d I J) := by
  subst hJ hI
  rw [Sort.partEqLoop_eq, if_neg h]

set_option maxRecDepth 100000 in
set_option maxHeartbeats 8000000 in
theorem partitionEqual_any (B n cap a b p : Nat) (tl : Array Value) (d : Array A) (w : World) (h : Rw enc T tl w B d) (hn : d.size = n) (hs : n ≤ 1000000) (hap : a ≤ p) (hpb : p < b) (hb : b ≤ n) :
    Calls Tryz.prog 52 #[.slice (some ⟨B, 0, none⟩) n cap, .int .i64 a, .int .i64 b, .int .i64 p] w fun e w' => e = .returned (.int .i64 (Sort.partitionEqual lt d a b p).1) ∧ Rw enc T tl w' B (Sort.partitionEqual lt d a b p).2 ∧ But B w w' := by
  have KL := Lib.hid less_any
  have R0 := Lib.hid (And.intro h (And.intro (But.refl B w) hn))
  unfold Sort.partitionEqual
  obtain ⟨L, hL⟩ : ∃ L, L = Sort.partEqLoop lt a (a + 1) (b - 1) (Sort.swp d a p) := ⟨_, rfl⟩
  have HL := Lib.hid hL
  rw [← hL]
  have hsz := hn
  obtain ⟨e, rfl⟩ : ∃ e, b = e + 1 := ⟨b - 1, by omega⟩
  clear h hn hL
  go_enter Tryz.func52, Tryz.ntmps52
  obtain ⟨y1, hy1⟩ := enc_ex d[a]!
  obtain ⟨y2, hy2⟩ := enc_ex d[p]!
  have f1 : w.cell? ⟨B, a, none⟩ = some (.float .f64 y1) := by rw [← hy1]; exact R0.out.1.cell (a) (by omega)
  have f2 : w.cell? ⟨B, p, none⟩ = some (.float .f64 y2) := by rw [← hy2]; exact R0.out.1.cell (p) (by omega)
  have g1 := R0.out.1.frozen (a)
  have g2 := R0.out.1.frozen (p)
  obtain ⟨v3, u3⟩ := R0.out.1.third (a) (p) (by omega) (by omega) d[p]!
  have S := Lib.hid (R0.out.1.swapped (a) (p) (by omega) (by omega))
  rw [hy2] at u3
  rw [hy1, hy2] at S
  clear hy1 hy2
  go_wp2_with fail
  go_region
  have R4 := Lib.hid (show Rw enc T tl _ B (Sort.swp d (a) (p)) ∧ But B w _ ∧ (Sort.swp d (a) (p)).size = n from ⟨S.out.1, R0.out.2.1.trans S.out.2, by rw [Sort.size_swp]; exact R0.out.2.2⟩)
  clear f1 f2 g1 g2 u3 S R0 
  clear hsz
  go_wp2
  go_loopg [9, 10] n (fun g v9 v10 wr => ∃ (i0 j0 : Nat) (d2 : Array A), a + 1 ≤ i0 ∧ i0 ≤ j0 + 2 ∧ j0 ≤ e ∧ j0 + 1 - i0 ≤ g ∧ v9 = .int .i64 (i0 : Int) ∧ v10 = .int .i64 (j0 : Int) ∧ Hid (L = Sort.partEqLoop lt a i0 j0 d2) ∧ Hid (Rw enc T tl wr B d2 ∧ But B w wr ∧ d2.size = n))
  case atStart => exact ⟨a + 1, e, _, by omega, by omega, by omega, by omega, by go_num, by go_num, HL, R4⟩
  case round =>
    clear R4 HL
    obtain ⟨i0, j0, d2, hi1, hi2, hj1, hg, rfl, rfl, E, R1⟩ := hrel
    obtain ⟨I2, hI2⟩ : ∃ I2, I2 = Sort.scanUp (fun x => !lt d2[a]! x) d2 (j0) (i0) := ⟨_, rfl⟩
    have HI2 := Lib.hid hI2
    have bI21 : i0 ≤ I2 := by rw [hI2]; exact Sort.scanUp_ge _ _ _ _
    have bI22 : I2 ≤ j0 + 2 := by rw [hI2]; exact scanUp_le2 _ _ _ _ (by omega)
    clear hI2
    have hsz := R1.out.2.2
    go_upto_block 2 with fail
    go_cut [9] from 29 to 82 (fun s9 wc => s9 = .int .i64 (I2 : Int) ∧ Hid (Rw enc T tl wc B d2 ∧ But B w wc ∧ (d2).size = n))
    case first =>
      go_wp2_with fail
      go_loopw [9] (fun v9 wr => ∃ i : Nat, i0 ≤ i ∧ i ≤ j0 + 2 ∧ v9 = .int .i64 (i : Int) ∧ Hid (I2 = Sort.scanUp (fun x => !lt d2[a]! x) d2 (j0) i) ∧ Hid (Rw enc T tl wr B d2 ∧ But B w wr ∧ (d2).size = n)) (fun s _ => (j0) + 2 - (intOf s).toNat)
      case atStart => exact ⟨i0, Nat.le_refl _, by omega, by go_num, HI2, R1⟩
      case round =>
        clear R1 HI2
        obtain ⟨i, hi1, hi2, rfl, E, R⟩ := hrel
        by_cases hij : i ≤ j0
        · have hd1 : decide ((i : Int) ≤ ((j0 : Nat) : Int)) = true := decide_eq_true (by omega)
          cases c1 : lt d2[a]! d2[i]! with
          | false =>
            have hst := E.out
            rw [Sort.scanUp, if_pos (by simp [hij, c1])] at hst
            have HST := Lib.hid hst
            clear hst E
            obtain ⟨x1, hx1⟩ := enc_ex d2[a]!
            obtain ⟨x2, hx2⟩ := enc_ex d2[i]!
            have fx1 : wr.cell? ⟨B, a, none⟩ = some (.float .f64 x1) := by rw [← hx1]; exact R.out.1.cell (a) (by omega)
            have fx2 : wr.cell? ⟨B, i, none⟩ = some (.float .f64 x2) := by rw [← hx2]; exact R.out.1.cell (i) (by omega)
            have ex1 := fun d os => cell_regrown fx1 d os
            have ex2 := fun d os => cell_regrown fx2 d os
            have r1K := Lib.hid (fun w => KL.out d2[a]! d2[i]! w)
            rw [hx1, hx2, c1] at r1K
            have r1 := fun d' os => Calls.regrown_of (w := wr) (d := d') (os := os) ((r1K.out _).mono fun _ _ h => ⟨h.1, by rw [h.2]; exact Below.refl _ _⟩)
            clear hx1 hx2 fx1 fx2 r1K
            go_wp2
            refine wp_region_quiet_below (by kernel_rfl) (by kernel_rfl) ?_
            repeat (go_big_quiet_step (with_reducible exact r1 _ _))
            refine wpQuiet_nil ?_
            intro W1 hw'
            have hbW1 : Below wr.heap.size wr W1 := by
              obtain ⟨⟨dq, osq⟩, hw''⟩ := hw'
              rw [hw'']; exact below_regrown _ dq osq
            have R3 := Lib.hid (And.intro (R.out.1.below hbW1) (And.intro (R.out.2.1.trans (But.of_below hbW1)) R.out.2.2))
            clear hw' hbW1 R r1 ex1 ex2 c1 KL
            go_wp2
            go_roundw
            case rel => exact ⟨i + 1, by omega, by omega, by go_num, HST, R3⟩
            case measure => simp [intOf]; omega
          | true =>
            have hst := E.out
            rw [Sort.scanUp, if_neg (by simp [c1])] at hst
            have HST := Lib.hid hst
            clear hst E
            obtain ⟨x1, hx1⟩ := enc_ex d2[a]!
            obtain ⟨x2, hx2⟩ := enc_ex d2[i]!
            have fx1 : wr.cell? ⟨B, a, none⟩ = some (.float .f64 x1) := by rw [← hx1]; exact R.out.1.cell (a) (by omega)
            have fx2 : wr.cell? ⟨B, i, none⟩ = some (.float .f64 x2) := by rw [← hx2]; exact R.out.1.cell (i) (by omega)
            have ex1 := fun d os => cell_regrown fx1 d os
            have ex2 := fun d os => cell_regrown fx2 d os
            have r1K := Lib.hid (fun w => KL.out d2[a]! d2[i]! w)
            rw [hx1, hx2, c1] at r1K
            have r1 := fun d' os => Calls.regrown_of (w := wr) (d := d') (os := os) ((r1K.out _).mono fun _ _ h => ⟨h.1, by rw [h.2]; exact Below.refl _ _⟩)
            clear hx1 hx2 fx1 fx2 r1K
            go_wp2
            refine wp_region_quiet_below (by kernel_rfl) (by kernel_rfl) ?_
            repeat (go_big_quiet_step (with_reducible exact r1 _ _))
            refine wpQuiet_nil ?_
            intro W1 hw'
            have hbW1 : Below wr.heap.size wr W1 := by
              obtain ⟨⟨dq, osq⟩, hw''⟩ := hw'
              rw [hw'']; exact below_regrown _ dq osq
            have R3 := Lib.hid (And.intro (R.out.1.below hbW1) (And.intro (R.out.2.1.trans (But.of_below hbW1)) R.out.2.2))
            clear hw' hbW1 R r1 ex1 ex2 c1 KL
            go_wp2
            go_meet
            case rel => exact ⟨by rw [HST.out], R3⟩
        · have hd1 : decide ((i : Int) ≤ ((j0 : Nat) : Int)) = false := decide_eq_false (by omega)
          have hst := E.out
          rw [Sort.scanUp, if_neg (by simp [hij])] at hst
          have HST := Lib.hid hst
          clear hst E
          go_wp2
          refine wp_region_quiet_below (by kernel_rfl) (by kernel_rfl) ?_
          repeat (go_big_quiet_step (fail))
          refine wpQuiet_nil ?_
          intro W1 hw'
          have hbW1 : Below wr.heap.size wr W1 := by
            obtain ⟨⟨dq, osq⟩, hw''⟩ := hw'
            rw [hw'']; exact below_regrown _ dq osq
          have R3 := Lib.hid (And.intro (R.out.1.below hbW1) (And.intro (R.out.2.1.trans (But.of_below hbW1)) R.out.2.2))
          clear hw' hbW1 R KL
          go_wp2
          go_meet
          case rel => exact ⟨by rw [HST.out], R3⟩
    case rest =>
      clear R1
      obtain ⟨rfl, R1⟩ := hcut
      obtain ⟨J2, hJ2⟩ : ∃ J2, J2 = Sort.scanDown (fun x => lt d2[a]! x) d2 (I2) (j0) := ⟨_, rfl⟩
      have HJ2 := Lib.hid hJ2
      have bJ21 : J2 ≤ j0 := by rw [hJ2]; exact Sort.scanDown_le _ _ _ _
      clear hJ2
      have hsz := R1.out.2.2
      go_upto_block 4 with fail
      go_cut [10] from 29 to 82 (fun s10 wc => s10 = .int .i64 (J2 : Int) ∧ Hid (Rw enc T tl wc B d2 ∧ But B w wc ∧ (d2).size = n))
      case first =>
        go_wp2_with fail
        go_loopw [10] (fun v10 wr => ∃ j : Nat, j ≤ j0 ∧ v10 = .int .i64 (j : Int) ∧ Hid (J2 = Sort.scanDown (fun x => lt d2[a]! x) d2 I2 j) ∧ Hid (Rw enc T tl wr B d2 ∧ But B w wr ∧ (d2).size = n)) (fun s _ => (intOf s).toNat)
        case atStart => exact ⟨j0, Nat.le_refl _, by go_num, HJ2, R1⟩
        case round =>
          clear R1 HJ2
          obtain ⟨j, hj1, rfl, E, R⟩ := hrel
          by_cases hij : I2 ≤ j
          · obtain ⟨k, rfl⟩ : ∃ k, j = k + 1 := ⟨j - 1, by omega⟩
            have hd1 : decide ((I2 : Int) ≤ (k : Int) + 1) = true := decide_eq_true (by omega)
            cases c1 : lt d2[a]! d2[k + 1]! with
            | true =>
              have hst := E.out
              rw [Sort.scanDown, if_pos (by simp [hij, c1])] at hst
              have HST := Lib.hid hst
              clear hst E
              obtain ⟨x1, hx1⟩ := enc_ex d2[a]!
              obtain ⟨x2, hx2⟩ := enc_ex d2[k + 1]!
              have fx1 : wr.cell? ⟨B, a, none⟩ = some (.float .f64 x1) := by rw [← hx1]; exact R.out.1.cell (a) (by omega)
              have fx2 : wr.cell? ⟨B, k + 1, none⟩ = some (.float .f64 x2) := by rw [← hx2]; exact R.out.1.cell (k + 1) (by omega)
              have ex1 := fun d os => cell_regrown fx1 d os
              have ex2 := fun d os => cell_regrown fx2 d os
              have r1K := Lib.hid (fun w => KL.out d2[a]! d2[k + 1]! w)
              rw [hx1, hx2, c1] at r1K
              have r1 := fun d' os => Calls.regrown_of (w := wr) (d := d') (os := os) ((r1K.out _).mono fun _ _ h => ⟨h.1, by rw [h.2]; exact Below.refl _ _⟩)
              clear hx1 hx2 fx1 fx2 r1K
              go_wp2
              refine wp_region_quiet_below (by kernel_rfl) (by kernel_rfl) ?_
              repeat (go_big_quiet_step (with_reducible exact r1 _ _))
              refine wpQuiet_nil ?_
              intro W1 hw'
              have hbW1 : Below wr.heap.size wr W1 := by
                obtain ⟨⟨dq, osq⟩, hw''⟩ := hw'
                rw [hw'']; exact below_regrown _ dq osq
              have R3 := Lib.hid (And.intro (R.out.1.below hbW1) (And.intro (R.out.2.1.trans (But.of_below hbW1)) R.out.2.2))
              clear hw' hbW1 R r1 ex1 ex2 c1 KL
              go_wp2
              go_roundw
              case rel => exact ⟨k, by omega, by go_num, HST, R3⟩
              case measure => simp [intOf]
            | false =>
              have hst := E.out
              rw [Sort.scanDown, if_neg (by simp [c1])] at hst
              have HST := Lib.hid hst
              clear hst E
              obtain ⟨x1, hx1⟩ := enc_ex d2[a]!
              obtain ⟨x2, hx2⟩ := enc_ex d2[k + 1]!
              have fx1 : wr.cell? ⟨B, a, none⟩ = some (.float .f64 x1) := by rw [← hx1]; exact R.out.1.cell (a) (by omega)
              have fx2 : wr.cell? ⟨B, k + 1, none⟩ = some (.float .f64 x2) := by rw [← hx2]; exact R.out.1.cell (k + 1) (by omega)
              have ex1 := fun d os => cell_regrown fx1 d os
              have ex2 := fun d os => cell_regrown fx2 d os
              have r1K := Lib.hid (fun w => KL.out d2[a]! d2[k + 1]! w)
              rw [hx1, hx2, c1] at r1K
              have r1 := fun d' os => Calls.regrown_of (w := wr) (d := d') (os := os) ((r1K.out _).mono fun _ _ h => ⟨h.1, by rw [h.2]; exact Below.refl _ _⟩)
              clear hx1 hx2 fx1 fx2 r1K
              go_wp2
              refine wp_region_quiet_below (by kernel_rfl) (by kernel_rfl) ?_
              repeat (go_big_quiet_step (with_reducible exact r1 _ _))
              refine wpQuiet_nil ?_
              intro W1 hw'
              have hbW1 : Below wr.heap.size wr W1 := by
                obtain ⟨⟨dq, osq⟩, hw''⟩ := hw'
                rw [hw'']; exact below_regrown _ dq osq
              have R3 := Lib.hid (And.intro (R.out.1.below hbW1) (And.intro (R.out.2.1.trans (But.of_below hbW1)) R.out.2.2))
              clear hw' hbW1 R r1 ex1 ex2 c1 KL
              go_wp2
              go_meet
              case rel => exact ⟨by rw [HST.out]; try rfl, R3⟩
          · have hd1 : decide ((I2 : Int) ≤ (j : Int)) = false := decide_eq_false (by omega)
            have hst := E.out
            rw [scanDown_end _ _ _ _ hij] at hst
            have HST := Lib.hid hst
            clear hst E
            go_wp2
            refine wp_region_quiet_below (by kernel_rfl) (by kernel_rfl) ?_
            repeat (go_big_quiet_step (fail))
            refine wpQuiet_nil ?_
            intro W1 hw'
            have hbW1 : Below wr.heap.size wr W1 := by
              obtain ⟨⟨dq, osq⟩, hw''⟩ := hw'
              rw [hw'']; exact below_regrown _ dq osq
            have R3 := Lib.hid (And.intro (R.out.1.below hbW1) (And.intro (R.out.2.1.trans (But.of_below hbW1)) R.out.2.2))
            clear hw' hbW1 R KL
            go_wp2
            go_meet
            case rel => exact ⟨by rw [HST.out], R3⟩
      case rest =>
        clear R1
        obtain ⟨rfl, R1⟩ := hcut
        have hsz := R1.out.2.2
        by_cases hJI : J2 < I2
        · have hd1 : decide ((J2 : Int) < (I2 : Int)) = true := decide_eq_true (by omega)
          have HE2 := Lib.hid (E.out.trans (eloop_stop HI2.out HJ2.out hJI))
          clear E HI2 HJ2 KL
          go_wp2
          go_ret
          rw [HE2.out]
          exact ⟨rfl, R1.out.1, R1.out.2.1⟩
        · have hd1 : decide ((J2 : Int) < (I2 : Int)) = false := decide_eq_false (by omega)
          have HE2 := Lib.hid (E.out.trans (eloop_go HI2.out HJ2.out hJI))
          obtain ⟨k2, rfl⟩ : ∃ k2, J2 = k2 + 1 := ⟨J2 - 1, by omega⟩
          clear E HI2 HJ2 KL
          obtain ⟨y1, hy1⟩ := enc_ex d2[I2]!
          obtain ⟨y2, hy2⟩ := enc_ex d2[k2 + 1]!
          have f1 : wc.cell? ⟨B, I2, none⟩ = some (.float .f64 y1) := by rw [← hy1]; exact R1.out.1.cell (I2) (by omega)
          have f2 : wc.cell? ⟨B, k2 + 1, none⟩ = some (.float .f64 y2) := by rw [← hy2]; exact R1.out.1.cell (k2 + 1) (by omega)
          have g1 := R1.out.1.frozen (I2)
          have g2 := R1.out.1.frozen (k2 + 1)
          obtain ⟨v3, u3⟩ := R1.out.1.third (I2) (k2 + 1) (by omega) (by omega) d2[k2 + 1]!
          have S := Lib.hid (R1.out.1.swapped (I2) (k2 + 1) (by omega) (by omega))
          rw [hy2] at u3
          rw [hy1, hy2] at S
          clear hy1 hy2
          go_wp2_with fail
          go_region
          have R4 := Lib.hid (show Rw enc T tl _ B (Sort.swp d2 (I2) (k2 + 1)) ∧ But B w _ ∧ (Sort.swp d2 (I2) (k2 + 1)).size = n from ⟨S.out.1, R1.out.2.1.trans S.out.2, by rw [Sort.size_swp]; exact R1.out.2.2⟩)
          clear f1 f2 g1 g2 u3 S R1 
          go_wp2
          go_roundg (k2 + 1 - (I2 + 1))
          case measure => omega
          case rel => exact ⟨I2 + 1, k2, _, by omega, by omega, by omega, by omega, by go_num, by go_num, HE2, R4⟩
end Go.Proofs.YtjjcoblbiagflaaGreat.kf
