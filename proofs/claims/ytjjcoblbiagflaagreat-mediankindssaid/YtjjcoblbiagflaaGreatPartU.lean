/- partitionOrdered at uint8 (laid by genpart.py). -/
import Derived.Test.YtjjcoblbiagflaaGreatKu8
import Derived.Sort.LotC
import Derived.Deep.CutBlock
namespace Go.Proofs.YtjjcoblbiagflaaGreat.ku
open Go.RowKit

theorem scanUp_le2 (p : A → Bool) (d : Array A) (j i : Nat) (h : i ≤ j + 2) : Sort.scanUp p d j i ≤ j + 2 := by
  by_cases h1 : i ≤ j + 1
  · have := (Sort.scanUp_spec p d j _ i rfl).2.1 h1; omega
  · rw [Sort.scanUp, if_neg (by simp; omega)]; exact h
theorem scanDown_end (p : A → Bool) (d : Array A) (i j : Nat) (h : ¬ i ≤ j) : Sort.scanDown p d i j = j := by
  cases j with
  | zero => rfl
  | succ k => rw [Sort.scanDown, if_neg (by simp; omega)]
theorem part_stop {d D0 : Array A} {a b p I J : Nat} (h0 : D0 = Sort.swp d a p) (hI : I = Sort.scanUp (fun x => lt x D0[a]!) D0 (b - 1) (a + 1)) (hJ : J = Sort.scanDown (fun x => !lt x D0[a]!) D0 I (b - 1)) (h : J < I) : Sort.partition lt d a b p = (J, true, Sort.swp D0 J a) := by
  subst hJ hI h0
  unfold Sort.partition
  exact if_pos h
theorem part_go {d D0 : Array A} {a b p I J : Nat} (h0 : D0 = Sort.swp d a p) (hI : I = Sort.scanUp (fun x => lt x D0[a]!) D0 (b - 1) (a + 1)) (hJ : J = Sort.scanDown (fun x => !lt x D0[a]!) D0 I (b - 1)) (h : ¬ J < I) : Sort.partition lt d a b p = ((Sort.partLoop lt a (I + 1) (J - 1) (Sort.swp D0 I J)).1, false, Sort.swp (Sort.partLoop lt a (I + 1) (J - 1) (Sort.swp D0 I J)).2 (Sort.partLoop lt a (I + 1) (J - 1) (Sort.swp D0 I J)).1 a) := by
  subst hJ hI h0
  unfold Sort.partition
  exact if_neg h
theorem loop_stop {d : Array A} {a i j I J : Nat} (hI : I = Sort.scanUp (fun x => lt x d[a]!) d j i) (hJ : J = Sort.scanDown (fun x => !lt x d[a]!) d I j) (h : J < I) : Sort.partLoop lt a i j d = (J, d) := by
  subst hJ hI
  rw [Sort.partLoop_eq, if_pos h]
theorem loop_go {d : Array A} {a i j I J : Nat} (hI : I = Sort.scanUp (fun x => lt x d[a]!) d j i) (hJ : J = Sort.scanDown (fun x => !lt x d[a]!) d I j) (h : ¬ J < I) : Sort.partLoop lt a i j d = Sort.partLoop lt a (I + 1) (J - 1) (Sort.swp d I J) := by
  subst hJ hI
  rw [Sort.partLoop_eq, if_neg h]

set_option maxRecDepth 100000 in
set_option maxHeartbeats 8000000 in
theorem partition_any (B n cap a b p : Nat) (tl : Array Value) (d : Array A) (w : World) (h : Rw enc T tl w B d) (hn : d.size = n) (hs : n ≤ 1000000) (hap : a ≤ p) (hpb : p < b) (hb : b ≤ n) :
    Calls Tryz.prog 62 #[.slice (some ⟨B, 0, none⟩) n cap, .int .i64 a, .int .i64 b, .int .i64 p] w fun e w' => e = .returned (.tuple #[.int .i64 (Sort.partition lt d a b p).1, .bool (Sort.partition lt d a b p).2.1]) ∧ Rw enc T tl w' B (Sort.partition lt d a b p).2.2 ∧ But B w w' := by
  have KL := Lib.hid less_any
  have R0 := Lib.hid (And.intro h (And.intro (But.refl B w) hn))
  obtain ⟨P, hP⟩ : ∃ P, P = Sort.partition lt d a b p := ⟨_, rfl⟩
  have HP := Lib.hid hP
  rw [← hP]
  have hsz := hn
  obtain ⟨e, rfl⟩ : ∃ e, b = e + 1 := ⟨b - 1, by omega⟩
  clear h hn hP
  go_enter Tryz.func62, Tryz.ntmps62
  obtain ⟨y1, hy1⟩ := enc_ex d[a]!
  obtain ⟨y2, hy2⟩ := enc_ex d[p]!
  have f1 : w.cell? ⟨B, a, none⟩ = some (.int .u8 y1) := by rw [← hy1]; exact R0.out.1.cell (a) (by omega)
  have f2 : w.cell? ⟨B, p, none⟩ = some (.int .u8 y2) := by rw [← hy2]; exact R0.out.1.cell (p) (by omega)
  have g1 := R0.out.1.frozen (a)
  have g2 := R0.out.1.frozen (p)
  obtain ⟨v3, u3⟩ := R0.out.1.third (a) (p) (by omega) (by omega) d[p]!
  have S := Lib.hid (R0.out.1.swapped (a) (p) (by omega) (by omega))
  rw [hy2] at u3
  rw [hy1, hy2] at S
  clear hy1 hy2
  go_wp2_with fail
  go_region
  have R1 := Lib.hid (show Rw enc T tl _ B (Sort.swp d (a) (p)) ∧ But B w _ ∧ (Sort.swp d (a) (p)).size = n from ⟨S.out.1, R0.out.2.1.trans S.out.2, by rw [Sort.size_swp]; exact R0.out.2.2⟩)
  clear f1 f2 g1 g2 u3 S R0 
  obtain ⟨D0, hD0⟩ : ∃ D0, D0 = Sort.swp d a p := ⟨_, rfl⟩
  rw [← hD0] at R1
  have HD0 := Lib.hid hD0
  clear hD0 hsz
  obtain ⟨I, hI⟩ : ∃ I, I = Sort.scanUp (fun x => lt x D0[a]!) D0 (e) (a + 1) := ⟨_, rfl⟩
  have HI := Lib.hid hI
  have bI1 : a + 1 ≤ I := by rw [hI]; exact Sort.scanUp_ge _ _ _ _
  have bI2 : I ≤ e + 2 := by rw [hI]; exact scanUp_le2 _ _ _ _ (by omega)
  clear hI
  have hsz := R1.out.2.2
  go_upto_block 0 with fail
  go_cut [10] from 30 to 45 (fun s10 wc => s10 = .int .i64 (I : Int) ∧ Hid (Rw enc T tl wc B D0 ∧ But B w wc ∧ (D0).size = n))
  case first =>
    go_wp2_with fail
    go_loopw [10] (fun v10 wr => ∃ i : Nat, a + 1 ≤ i ∧ i ≤ e + 2 ∧ v10 = .int .i64 (i : Int) ∧ Hid (I = Sort.scanUp (fun x => lt x D0[a]!) D0 (e) i) ∧ Hid (Rw enc T tl wr B D0 ∧ But B w wr ∧ (D0).size = n)) (fun s _ => (e) + 2 - (intOf s).toNat)
    case atStart => exact ⟨a + 1, Nat.le_refl _, by omega, by go_num, HI, R1⟩
    case round =>
      clear R1 HI
      obtain ⟨i, hi1, hi2, rfl, E, R⟩ := hrel
      by_cases hij : i ≤ e
      · have hd1 : decide ((i : Int) ≤ ((e : Nat) : Int)) = true := decide_eq_true (by omega)
        cases c1 : lt D0[i]! D0[a]! with
        | true =>
          have hst := E.out
          rw [Sort.scanUp, if_pos (by simp [hij, c1])] at hst
          have HST := Lib.hid hst
          clear hst E
          obtain ⟨x1, hx1⟩ := enc_ex D0[i]!
          obtain ⟨x2, hx2⟩ := enc_ex D0[a]!
          have fx1 : wr.cell? ⟨B, i, none⟩ = some (.int .u8 x1) := by rw [← hx1]; exact R.out.1.cell (i) (by omega)
          have fx2 : wr.cell? ⟨B, a, none⟩ = some (.int .u8 x2) := by rw [← hx2]; exact R.out.1.cell (a) (by omega)
          have ex1 := fun d os => cell_regrown fx1 d os
          have ex2 := fun d os => cell_regrown fx2 d os
          have r1K := Lib.hid (fun w => KL.out D0[i]! D0[a]! w)
          rw [hx1, hx2, c1] at r1K
          have r1 := fun d' os => Calls.regrown_of (w := wr) (d := d') (os := os) ((r1K.out _).mono fun _ _ h => ⟨h.1, by rw [h.2]; exact Below.refl _ _⟩)
          clear hx1 hx2 fx1 fx2 r1K
          go_wp2
          refine wp_region_quiet_below (by kernel_rfl) (by kernel_rfl) ?_
          repeat (go_big_quiet_step (with_reducible exact r1 _ _))
          refine wpQuiet_nil ?_
          intro W1 hw'
          have hbW1 : Below wr.heap.size wr W1 := by
            obtain ⟨⟨dq, osq⟩, hw''⟩ := hw'
            rw [hw'']; exact below_regrown _ dq osq
          have R3 := Lib.hid (And.intro (R.out.1.below hbW1) (And.intro (R.out.2.1.trans (But.of_below hbW1)) R.out.2.2))
          clear hw' hbW1 R r1 ex1 ex2 c1 KL
          go_wp2
          go_roundw
          case rel => exact ⟨i + 1, by omega, by omega, by go_num, HST, R3⟩
          case measure => simp [intOf]; omega
        | false =>
          have hst := E.out
          rw [Sort.scanUp, if_neg (by simp [c1])] at hst
          have HST := Lib.hid hst
          clear hst E
          obtain ⟨x1, hx1⟩ := enc_ex D0[i]!
          obtain ⟨x2, hx2⟩ := enc_ex D0[a]!
          have fx1 : wr.cell? ⟨B, i, none⟩ = some (.int .u8 x1) := by rw [← hx1]; exact R.out.1.cell (i) (by omega)
          have fx2 : wr.cell? ⟨B, a, none⟩ = some (.int .u8 x2) := by rw [← hx2]; exact R.out.1.cell (a) (by omega)
          have ex1 := fun d os => cell_regrown fx1 d os
          have ex2 := fun d os => cell_regrown fx2 d os
          have r1K := Lib.hid (fun w => KL.out D0[i]! D0[a]! w)
          rw [hx1, hx2, c1] at r1K
          have r1 := fun d' os => Calls.regrown_of (w := wr) (d := d') (os := os) ((r1K.out _).mono fun _ _ h => ⟨h.1, by rw [h.2]; exact Below.refl _ _⟩)
          clear hx1 hx2 fx1 fx2 r1K
          go_wp2
          refine wp_region_quiet_below (by kernel_rfl) (by kernel_rfl) ?_
          repeat (go_big_quiet_step (with_reducible exact r1 _ _))
          refine wpQuiet_nil ?_
          intro W1 hw'
          have hbW1 : Below wr.heap.size wr W1 := by
            obtain ⟨⟨dq, osq⟩, hw''⟩ := hw'
            rw [hw'']; exact below_regrown _ dq osq
          have R3 := Lib.hid (And.intro (R.out.1.below hbW1) (And.intro (R.out.2.1.trans (But.of_below hbW1)) R.out.2.2))
          clear hw' hbW1 R r1 ex1 ex2 c1 KL
          go_wp2
          go_meet
          case rel => exact ⟨by rw [HST.out], R3⟩
      · have hd1 : decide ((i : Int) ≤ ((e : Nat) : Int)) = false := decide_eq_false (by omega)
        have hst := E.out
        rw [Sort.scanUp, if_neg (by simp [hij])] at hst
        have HST := Lib.hid hst
        clear hst E
        go_wp2
        refine wp_region_quiet_below (by kernel_rfl) (by kernel_rfl) ?_
        repeat (go_big_quiet_step (fail))
        refine wpQuiet_nil ?_
        intro W1 hw'
        have hbW1 : Below wr.heap.size wr W1 := by
          obtain ⟨⟨dq, osq⟩, hw''⟩ := hw'
          rw [hw'']; exact below_regrown _ dq osq
        have R3 := Lib.hid (And.intro (R.out.1.below hbW1) (And.intro (R.out.2.1.trans (But.of_below hbW1)) R.out.2.2))
        clear hw' hbW1 R KL
        go_wp2
        go_meet
        case rel => exact ⟨by rw [HST.out], R3⟩
  case rest =>
    clear R1
    obtain ⟨rfl, R1⟩ := hcut
    obtain ⟨J, hJ⟩ : ∃ J, J = Sort.scanDown (fun x => !lt x D0[a]!) D0 (I) (e) := ⟨_, rfl⟩
    have HJ := Lib.hid hJ
    have bJ1 : J ≤ e := by rw [hJ]; exact Sort.scanDown_le _ _ _ _
    clear hJ
    have hsz := R1.out.2.2
    go_upto_block 2 with fail
    go_cut [11] from 46 to 62 (fun s11 wc => s11 = .int .i64 (J : Int) ∧ Hid (Rw enc T tl wc B D0 ∧ But B w wc ∧ (D0).size = n))
    case first =>
      go_wp2_with fail
      go_loopw [11] (fun v11 wr => ∃ j : Nat, j ≤ e ∧ v11 = .int .i64 (j : Int) ∧ Hid (J = Sort.scanDown (fun x => !lt x D0[a]!) D0 I j) ∧ Hid (Rw enc T tl wr B D0 ∧ But B w wr ∧ (D0).size = n)) (fun s _ => (intOf s).toNat)
      case atStart => exact ⟨e, Nat.le_refl _, by go_num, HJ, R1⟩
      case round =>
        clear R1 HJ
        obtain ⟨j, hj1, rfl, E, R⟩ := hrel
        by_cases hij : I ≤ j
        · obtain ⟨k, rfl⟩ : ∃ k, j = k + 1 := ⟨j - 1, by omega⟩
          have hd1 : decide ((I : Int) ≤ (k : Int) + 1) = true := decide_eq_true (by omega)
          cases c1 : lt D0[k + 1]! D0[a]! with
          | false =>
            have hst := E.out
            rw [Sort.scanDown, if_pos (by simp [hij, c1])] at hst
            have HST := Lib.hid hst
            clear hst E
            obtain ⟨x1, hx1⟩ := enc_ex D0[k + 1]!
            obtain ⟨x2, hx2⟩ := enc_ex D0[a]!
            have fx1 : wr.cell? ⟨B, k + 1, none⟩ = some (.int .u8 x1) := by rw [← hx1]; exact R.out.1.cell (k + 1) (by omega)
            have fx2 : wr.cell? ⟨B, a, none⟩ = some (.int .u8 x2) := by rw [← hx2]; exact R.out.1.cell (a) (by omega)
            have ex1 := fun d os => cell_regrown fx1 d os
            have ex2 := fun d os => cell_regrown fx2 d os
            have r1K := Lib.hid (fun w => KL.out D0[k + 1]! D0[a]! w)
            rw [hx1, hx2, c1] at r1K
            have r1 := fun d' os => Calls.regrown_of (w := wr) (d := d') (os := os) ((r1K.out _).mono fun _ _ h => ⟨h.1, by rw [h.2]; exact Below.refl _ _⟩)
            clear hx1 hx2 fx1 fx2 r1K
            go_wp2
            refine wp_region_quiet_below (by kernel_rfl) (by kernel_rfl) ?_
            repeat (go_big_quiet_step (with_reducible exact r1 _ _))
            refine wpQuiet_nil ?_
            intro W1 hw'
            have hbW1 : Below wr.heap.size wr W1 := by
              obtain ⟨⟨dq, osq⟩, hw''⟩ := hw'
              rw [hw'']; exact below_regrown _ dq osq
            have R3 := Lib.hid (And.intro (R.out.1.below hbW1) (And.intro (R.out.2.1.trans (But.of_below hbW1)) R.out.2.2))
            clear hw' hbW1 R r1 ex1 ex2 c1 KL
            go_wp2
            go_roundw
            case rel => exact ⟨k, by omega, by go_num, HST, R3⟩
            case measure => simp [intOf]
          | true =>
            have hst := E.out
            rw [Sort.scanDown, if_neg (by simp [c1])] at hst
            have HST := Lib.hid hst
            clear hst E
            obtain ⟨x1, hx1⟩ := enc_ex D0[k + 1]!
            obtain ⟨x2, hx2⟩ := enc_ex D0[a]!
            have fx1 : wr.cell? ⟨B, k + 1, none⟩ = some (.int .u8 x1) := by rw [← hx1]; exact R.out.1.cell (k + 1) (by omega)
            have fx2 : wr.cell? ⟨B, a, none⟩ = some (.int .u8 x2) := by rw [← hx2]; exact R.out.1.cell (a) (by omega)
            have ex1 := fun d os => cell_regrown fx1 d os
            have ex2 := fun d os => cell_regrown fx2 d os
            have r1K := Lib.hid (fun w => KL.out D0[k + 1]! D0[a]! w)
            rw [hx1, hx2, c1] at r1K
            have r1 := fun d' os => Calls.regrown_of (w := wr) (d := d') (os := os) ((r1K.out _).mono fun _ _ h => ⟨h.1, by rw [h.2]; exact Below.refl _ _⟩)
            clear hx1 hx2 fx1 fx2 r1K
            go_wp2
            refine wp_region_quiet_below (by kernel_rfl) (by kernel_rfl) ?_
            repeat (go_big_quiet_step (with_reducible exact r1 _ _))
            refine wpQuiet_nil ?_
            intro W1 hw'
            have hbW1 : Below wr.heap.size wr W1 := by
              obtain ⟨⟨dq, osq⟩, hw''⟩ := hw'
              rw [hw'']; exact below_regrown _ dq osq
            have R3 := Lib.hid (And.intro (R.out.1.below hbW1) (And.intro (R.out.2.1.trans (But.of_below hbW1)) R.out.2.2))
            clear hw' hbW1 R r1 ex1 ex2 c1 KL
            go_wp2
            go_meet
            case rel => exact ⟨by rw [HST.out]; try rfl, R3⟩
        · have hd1 : decide ((I : Int) ≤ (j : Int)) = false := decide_eq_false (by omega)
          have hst := E.out
          rw [scanDown_end _ _ _ _ hij] at hst
          have HST := Lib.hid hst
          clear hst E
          go_wp2
          refine wp_region_quiet_below (by kernel_rfl) (by kernel_rfl) ?_
          repeat (go_big_quiet_step (fail))
          refine wpQuiet_nil ?_
          intro W1 hw'
          have hbW1 : Below wr.heap.size wr W1 := by
            obtain ⟨⟨dq, osq⟩, hw''⟩ := hw'
            rw [hw'']; exact below_regrown _ dq osq
          have R3 := Lib.hid (And.intro (R.out.1.below hbW1) (And.intro (R.out.2.1.trans (But.of_below hbW1)) R.out.2.2))
          clear hw' hbW1 R KL
          go_wp2
          go_meet
          case rel => exact ⟨by rw [HST.out], R3⟩
    case rest =>
      clear R1
      obtain ⟨rfl, R1⟩ := hcut
      have hsz := R1.out.2.2
      by_cases hJI : J < I
      · have hd1 : decide ((J : Int) < (I : Int)) = true := decide_eq_true (by omega)
        have HE := Lib.hid (HP.out.trans (part_stop HD0.out HI.out HJ.out hJI))
        clear HP HD0 HI HJ KL
        obtain ⟨y1, hy1⟩ := enc_ex D0[J]!
        obtain ⟨y2, hy2⟩ := enc_ex D0[a]!
        have f1 : wc.cell? ⟨B, J, none⟩ = some (.int .u8 y1) := by rw [← hy1]; exact R1.out.1.cell (J) (by omega)
        have f2 : wc.cell? ⟨B, a, none⟩ = some (.int .u8 y2) := by rw [← hy2]; exact R1.out.1.cell (a) (by omega)
        have g1 := R1.out.1.frozen (J)
        have g2 := R1.out.1.frozen (a)
        obtain ⟨v3, u3⟩ := R1.out.1.third (J) (a) (by omega) (by omega) D0[a]!
        have S := Lib.hid (R1.out.1.swapped (J) (a) (by omega) (by omega))
        rw [hy2] at u3
        rw [hy1, hy2] at S
        clear hy1 hy2
        go_wp2_with fail
        go_region
        have R4 := Lib.hid (show Rw enc T tl _ B (Sort.swp D0 (J) (a)) ∧ But B w _ ∧ (Sort.swp D0 (J) (a)).size = n from ⟨S.out.1, R1.out.2.1.trans S.out.2, by rw [Sort.size_swp]; exact R1.out.2.2⟩)
        clear f1 f2 g1 g2 u3 S R1 
        go_wp2
        go_ret2
        rw [HE.out]
        exact ⟨rfl, R4.out.1, R4.out.2.1⟩
      · have hd1 : decide ((J : Int) < (I : Int)) = false := decide_eq_false (by omega)
        have HE := Lib.hid (HP.out.trans (part_go HD0.out HI.out HJ.out hJI))
        obtain ⟨k, rfl⟩ : ∃ k, J = k + 1 := ⟨J - 1, by omega⟩
        clear HP HD0 HI HJ
        obtain ⟨y1, hy1⟩ := enc_ex D0[I]!
        obtain ⟨y2, hy2⟩ := enc_ex D0[k + 1]!
        have f1 : wc.cell? ⟨B, I, none⟩ = some (.int .u8 y1) := by rw [← hy1]; exact R1.out.1.cell (I) (by omega)
        have f2 : wc.cell? ⟨B, k + 1, none⟩ = some (.int .u8 y2) := by rw [← hy2]; exact R1.out.1.cell (k + 1) (by omega)
        have g1 := R1.out.1.frozen (I)
        have g2 := R1.out.1.frozen (k + 1)
        obtain ⟨v3, u3⟩ := R1.out.1.third (I) (k + 1) (by omega) (by omega) D0[k + 1]!
        have S := Lib.hid (R1.out.1.swapped (I) (k + 1) (by omega) (by omega))
        rw [hy2] at u3
        rw [hy1, hy2] at S
        clear hy1 hy2
        go_wp2_with fail
        go_region
        have R4 := Lib.hid (show Rw enc T tl _ B (Sort.swp D0 (I) (k + 1)) ∧ But B w _ ∧ (Sort.swp D0 (I) (k + 1)).size = n from ⟨S.out.1, R1.out.2.1.trans S.out.2, by rw [Sort.size_swp]; exact R1.out.2.2⟩)
        clear f1 f2 g1 g2 u3 S R1 
        obtain ⟨L, hL⟩ : ∃ L, L = Sort.partLoop lt a (I + 1) (k + 1 - 1) (Sort.swp D0 I (k + 1)) := ⟨_, rfl⟩
        rw [← hL] at HE
        have HL := Lib.hid hL
        clear hL hd1 hJI hsz
        go_wp2
        go_loopg [10, 11] n (fun g v10 v11 wr => ∃ (i0 j0 : Nat) (d2 : Array A), a + 1 ≤ i0 ∧ i0 ≤ j0 + 2 ∧ j0 ≤ e ∧ j0 + 1 - i0 ≤ g ∧ v10 = .int .i64 (i0 : Int) ∧ v11 = .int .i64 (j0 : Int) ∧ Hid (L = Sort.partLoop lt a i0 j0 d2) ∧ Hid (Rw enc T tl wr B d2 ∧ But B w wr ∧ d2.size = n))
        case atStart => exact ⟨I + 1, k, _, by omega, by omega, by omega, by omega, by go_num, by go_num, HL, R4⟩
        case round =>
          clear R4 HL
          obtain ⟨i0, j0, d2, hi1, hi2, hj1, hg, rfl, rfl, E, R1⟩ := hrel
          obtain ⟨I2, hI2⟩ : ∃ I2, I2 = Sort.scanUp (fun x => lt x d2[a]!) d2 (j0) (i0) := ⟨_, rfl⟩
          have HI2 := Lib.hid hI2
          have bI21 : i0 ≤ I2 := by rw [hI2]; exact Sort.scanUp_ge _ _ _ _
          have bI22 : I2 ≤ j0 + 2 := by rw [hI2]; exact scanUp_le2 _ _ _ _ (by omega)
          clear hI2
          have hsz := R1.out.2.2
          go_upto_block 6 with fail
          go_cut [10] from 99 to 152 (fun s10 wc => s10 = .int .i64 (I2 : Int) ∧ Hid (Rw enc T tl wc B d2 ∧ But B w wc ∧ (d2).size = n))
          case first =>
            go_wp2_with fail
            go_loopw [10] (fun v10 wr => ∃ i : Nat, i0 ≤ i ∧ i ≤ j0 + 2 ∧ v10 = .int .i64 (i : Int) ∧ Hid (I2 = Sort.scanUp (fun x => lt x d2[a]!) d2 (j0) i) ∧ Hid (Rw enc T tl wr B d2 ∧ But B w wr ∧ (d2).size = n)) (fun s _ => (j0) + 2 - (intOf s).toNat)
            case atStart => exact ⟨i0, Nat.le_refl _, by omega, by go_num, HI2, R1⟩
            case round =>
              clear R1 HI2
              obtain ⟨i, hi1, hi2, rfl, E, R⟩ := hrel
              by_cases hij : i ≤ j0
              · have hd1 : decide ((i : Int) ≤ ((j0 : Nat) : Int)) = true := decide_eq_true (by omega)
                cases c1 : lt d2[i]! d2[a]! with
                | true =>
                  have hst := E.out
                  rw [Sort.scanUp, if_pos (by simp [hij, c1])] at hst
                  have HST := Lib.hid hst
                  clear hst E
                  obtain ⟨x1, hx1⟩ := enc_ex d2[i]!
                  obtain ⟨x2, hx2⟩ := enc_ex d2[a]!
                  have fx1 : wr.cell? ⟨B, i, none⟩ = some (.int .u8 x1) := by rw [← hx1]; exact R.out.1.cell (i) (by omega)
                  have fx2 : wr.cell? ⟨B, a, none⟩ = some (.int .u8 x2) := by rw [← hx2]; exact R.out.1.cell (a) (by omega)
                  have ex1 := fun d os => cell_regrown fx1 d os
                  have ex2 := fun d os => cell_regrown fx2 d os
                  have r1K := Lib.hid (fun w => KL.out d2[i]! d2[a]! w)
                  rw [hx1, hx2, c1] at r1K
                  have r1 := fun d' os => Calls.regrown_of (w := wr) (d := d') (os := os) ((r1K.out _).mono fun _ _ h => ⟨h.1, by rw [h.2]; exact Below.refl _ _⟩)
                  clear hx1 hx2 fx1 fx2 r1K
                  go_wp2
                  refine wp_region_quiet_below (by kernel_rfl) (by kernel_rfl) ?_
                  repeat (go_big_quiet_step (with_reducible exact r1 _ _))
                  refine wpQuiet_nil ?_
                  intro W1 hw'
                  have hbW1 : Below wr.heap.size wr W1 := by
                    obtain ⟨⟨dq, osq⟩, hw''⟩ := hw'
                    rw [hw'']; exact below_regrown _ dq osq
                  have R3 := Lib.hid (And.intro (R.out.1.below hbW1) (And.intro (R.out.2.1.trans (But.of_below hbW1)) R.out.2.2))
                  clear hw' hbW1 R r1 ex1 ex2 c1 KL
                  go_wp2
                  go_roundw
                  case rel => exact ⟨i + 1, by omega, by omega, by go_num, HST, R3⟩
                  case measure => simp [intOf]; omega
                | false =>
                  have hst := E.out
                  rw [Sort.scanUp, if_neg (by simp [c1])] at hst
                  have HST := Lib.hid hst
                  clear hst E
                  obtain ⟨x1, hx1⟩ := enc_ex d2[i]!
                  obtain ⟨x2, hx2⟩ := enc_ex d2[a]!
                  have fx1 : wr.cell? ⟨B, i, none⟩ = some (.int .u8 x1) := by rw [← hx1]; exact R.out.1.cell (i) (by omega)
                  have fx2 : wr.cell? ⟨B, a, none⟩ = some (.int .u8 x2) := by rw [← hx2]; exact R.out.1.cell (a) (by omega)
                  have ex1 := fun d os => cell_regrown fx1 d os
                  have ex2 := fun d os => cell_regrown fx2 d os
                  have r1K := Lib.hid (fun w => KL.out d2[i]! d2[a]! w)
                  rw [hx1, hx2, c1] at r1K
                  have r1 := fun d' os => Calls.regrown_of (w := wr) (d := d') (os := os) ((r1K.out _).mono fun _ _ h => ⟨h.1, by rw [h.2]; exact Below.refl _ _⟩)
                  clear hx1 hx2 fx1 fx2 r1K
                  go_wp2
                  refine wp_region_quiet_below (by kernel_rfl) (by kernel_rfl) ?_
                  repeat (go_big_quiet_step (with_reducible exact r1 _ _))
                  refine wpQuiet_nil ?_
                  intro W1 hw'
                  have hbW1 : Below wr.heap.size wr W1 := by
                    obtain ⟨⟨dq, osq⟩, hw''⟩ := hw'
                    rw [hw'']; exact below_regrown _ dq osq
                  have R3 := Lib.hid (And.intro (R.out.1.below hbW1) (And.intro (R.out.2.1.trans (But.of_below hbW1)) R.out.2.2))
                  clear hw' hbW1 R r1 ex1 ex2 c1 KL
                  go_wp2
                  go_meet
                  case rel => exact ⟨by rw [HST.out], R3⟩
              · have hd1 : decide ((i : Int) ≤ ((j0 : Nat) : Int)) = false := decide_eq_false (by omega)
                have hst := E.out
                rw [Sort.scanUp, if_neg (by simp [hij])] at hst
                have HST := Lib.hid hst
                clear hst E
                go_wp2
                refine wp_region_quiet_below (by kernel_rfl) (by kernel_rfl) ?_
                repeat (go_big_quiet_step (fail))
                refine wpQuiet_nil ?_
                intro W1 hw'
                have hbW1 : Below wr.heap.size wr W1 := by
                  obtain ⟨⟨dq, osq⟩, hw''⟩ := hw'
                  rw [hw'']; exact below_regrown _ dq osq
                have R3 := Lib.hid (And.intro (R.out.1.below hbW1) (And.intro (R.out.2.1.trans (But.of_below hbW1)) R.out.2.2))
                clear hw' hbW1 R KL
                go_wp2
                go_meet
                case rel => exact ⟨by rw [HST.out], R3⟩
          case rest =>
            clear R1
            obtain ⟨rfl, R1⟩ := hcut
            obtain ⟨J2, hJ2⟩ : ∃ J2, J2 = Sort.scanDown (fun x => !lt x d2[a]!) d2 (I2) (j0) := ⟨_, rfl⟩
            have HJ2 := Lib.hid hJ2
            have bJ21 : J2 ≤ j0 := by rw [hJ2]; exact Sort.scanDown_le _ _ _ _
            clear hJ2
            have hsz := R1.out.2.2
            go_upto_block 8 with fail
            go_cut [11] from 99 to 152 (fun s11 wc => s11 = .int .i64 (J2 : Int) ∧ Hid (Rw enc T tl wc B d2 ∧ But B w wc ∧ (d2).size = n))
            case first =>
              go_wp2_with fail
              go_loopw [11] (fun v11 wr => ∃ j : Nat, j ≤ j0 ∧ v11 = .int .i64 (j : Int) ∧ Hid (J2 = Sort.scanDown (fun x => !lt x d2[a]!) d2 I2 j) ∧ Hid (Rw enc T tl wr B d2 ∧ But B w wr ∧ (d2).size = n)) (fun s _ => (intOf s).toNat)
              case atStart => exact ⟨j0, Nat.le_refl _, by go_num, HJ2, R1⟩
              case round =>
                clear R1 HJ2
                obtain ⟨j, hj1, rfl, E, R⟩ := hrel
                by_cases hij : I2 ≤ j
                · obtain ⟨k, rfl⟩ : ∃ k, j = k + 1 := ⟨j - 1, by omega⟩
                  have hd1 : decide ((I2 : Int) ≤ (k : Int) + 1) = true := decide_eq_true (by omega)
                  cases c1 : lt d2[k + 1]! d2[a]! with
                  | false =>
                    have hst := E.out
                    rw [Sort.scanDown, if_pos (by simp [hij, c1])] at hst
                    have HST := Lib.hid hst
                    clear hst E
                    obtain ⟨x1, hx1⟩ := enc_ex d2[k + 1]!
                    obtain ⟨x2, hx2⟩ := enc_ex d2[a]!
                    have fx1 : wr.cell? ⟨B, k + 1, none⟩ = some (.int .u8 x1) := by rw [← hx1]; exact R.out.1.cell (k + 1) (by omega)
                    have fx2 : wr.cell? ⟨B, a, none⟩ = some (.int .u8 x2) := by rw [← hx2]; exact R.out.1.cell (a) (by omega)
                    have ex1 := fun d os => cell_regrown fx1 d os
                    have ex2 := fun d os => cell_regrown fx2 d os
                    have r1K := Lib.hid (fun w => KL.out d2[k + 1]! d2[a]! w)
                    rw [hx1, hx2, c1] at r1K
                    have r1 := fun d' os => Calls.regrown_of (w := wr) (d := d') (os := os) ((r1K.out _).mono fun _ _ h => ⟨h.1, by rw [h.2]; exact Below.refl _ _⟩)
                    clear hx1 hx2 fx1 fx2 r1K
                    go_wp2
                    refine wp_region_quiet_below (by kernel_rfl) (by kernel_rfl) ?_
                    repeat (go_big_quiet_step (with_reducible exact r1 _ _))
                    refine wpQuiet_nil ?_
                    intro W1 hw'
                    have hbW1 : Below wr.heap.size wr W1 := by
                      obtain ⟨⟨dq, osq⟩, hw''⟩ := hw'
                      rw [hw'']; exact below_regrown _ dq osq
                    have R3 := Lib.hid (And.intro (R.out.1.below hbW1) (And.intro (R.out.2.1.trans (But.of_below hbW1)) R.out.2.2))
                    clear hw' hbW1 R r1 ex1 ex2 c1 KL
                    go_wp2
                    go_roundw
                    case rel => exact ⟨k, by omega, by go_num, HST, R3⟩
                    case measure => simp [intOf]
                  | true =>
                    have hst := E.out
                    rw [Sort.scanDown, if_neg (by simp [c1])] at hst
                    have HST := Lib.hid hst
                    clear hst E
                    obtain ⟨x1, hx1⟩ := enc_ex d2[k + 1]!
                    obtain ⟨x2, hx2⟩ := enc_ex d2[a]!
                    have fx1 : wr.cell? ⟨B, k + 1, none⟩ = some (.int .u8 x1) := by rw [← hx1]; exact R.out.1.cell (k + 1) (by omega)
                    have fx2 : wr.cell? ⟨B, a, none⟩ = some (.int .u8 x2) := by rw [← hx2]; exact R.out.1.cell (a) (by omega)
                    have ex1 := fun d os => cell_regrown fx1 d os
                    have ex2 := fun d os => cell_regrown fx2 d os
                    have r1K := Lib.hid (fun w => KL.out d2[k + 1]! d2[a]! w)
                    rw [hx1, hx2, c1] at r1K
                    have r1 := fun d' os => Calls.regrown_of (w := wr) (d := d') (os := os) ((r1K.out _).mono fun _ _ h => ⟨h.1, by rw [h.2]; exact Below.refl _ _⟩)
                    clear hx1 hx2 fx1 fx2 r1K
                    go_wp2
                    refine wp_region_quiet_below (by kernel_rfl) (by kernel_rfl) ?_
                    repeat (go_big_quiet_step (with_reducible exact r1 _ _))
                    refine wpQuiet_nil ?_
                    intro W1 hw'
                    have hbW1 : Below wr.heap.size wr W1 := by
                      obtain ⟨⟨dq, osq⟩, hw''⟩ := hw'
                      rw [hw'']; exact below_regrown _ dq osq
                    have R3 := Lib.hid (And.intro (R.out.1.below hbW1) (And.intro (R.out.2.1.trans (But.of_below hbW1)) R.out.2.2))
                    clear hw' hbW1 R r1 ex1 ex2 c1 KL
                    go_wp2
                    go_meet
                    case rel => exact ⟨by rw [HST.out]; try rfl, R3⟩
                · have hd1 : decide ((I2 : Int) ≤ (j : Int)) = false := decide_eq_false (by omega)
                  have hst := E.out
                  rw [scanDown_end _ _ _ _ hij] at hst
                  have HST := Lib.hid hst
                  clear hst E
                  go_wp2
                  refine wp_region_quiet_below (by kernel_rfl) (by kernel_rfl) ?_
                  repeat (go_big_quiet_step (fail))
                  refine wpQuiet_nil ?_
                  intro W1 hw'
                  have hbW1 : Below wr.heap.size wr W1 := by
                    obtain ⟨⟨dq, osq⟩, hw''⟩ := hw'
                    rw [hw'']; exact below_regrown _ dq osq
                  have R3 := Lib.hid (And.intro (R.out.1.below hbW1) (And.intro (R.out.2.1.trans (But.of_below hbW1)) R.out.2.2))
                  clear hw' hbW1 R KL
                  go_wp2
                  go_meet
                  case rel => exact ⟨by rw [HST.out], R3⟩
            case rest =>
              clear R1
              obtain ⟨rfl, R1⟩ := hcut
              have hsz := R1.out.2.2
              by_cases hJI : J2 < I2
              · have hd1 : decide ((J2 : Int) < (I2 : Int)) = true := decide_eq_true (by omega)
                have HE2 := Lib.hid (E.out.trans (loop_stop HI2.out HJ2.out hJI))
                clear E HI2 HJ2 KL
                obtain ⟨y1, hy1⟩ := enc_ex d2[J2]!
                obtain ⟨y2, hy2⟩ := enc_ex d2[a]!
                have f1 : wc.cell? ⟨B, J2, none⟩ = some (.int .u8 y1) := by rw [← hy1]; exact R1.out.1.cell (J2) (by omega)
                have f2 : wc.cell? ⟨B, a, none⟩ = some (.int .u8 y2) := by rw [← hy2]; exact R1.out.1.cell (a) (by omega)
                have g1 := R1.out.1.frozen (J2)
                have g2 := R1.out.1.frozen (a)
                obtain ⟨v3, u3⟩ := R1.out.1.third (J2) (a) (by omega) (by omega) d2[a]!
                have S := Lib.hid (R1.out.1.swapped (J2) (a) (by omega) (by omega))
                rw [hy2] at u3
                rw [hy1, hy2] at S
                clear hy1 hy2
                go_wp2_with fail
                go_region
                have R4 := Lib.hid (show Rw enc T tl _ B (Sort.swp d2 (J2) (a)) ∧ But B w _ ∧ (Sort.swp d2 (J2) (a)).size = n from ⟨S.out.1, R1.out.2.1.trans S.out.2, by rw [Sort.size_swp]; exact R1.out.2.2⟩)
                clear f1 f2 g1 g2 u3 S R1 
                go_wp2
                go_ret2
                rw [HE.out, HE2.out]
                exact ⟨rfl, R4.out.1, R4.out.2.1⟩
              · have hd1 : decide ((J2 : Int) < (I2 : Int)) = false := decide_eq_false (by omega)
                have HE2 := Lib.hid (E.out.trans (loop_go HI2.out HJ2.out hJI))
                obtain ⟨k2, rfl⟩ : ∃ k2, J2 = k2 + 1 := ⟨J2 - 1, by omega⟩
                clear E HI2 HJ2 KL
                obtain ⟨y1, hy1⟩ := enc_ex d2[I2]!
                obtain ⟨y2, hy2⟩ := enc_ex d2[k2 + 1]!
                have f1 : wc.cell? ⟨B, I2, none⟩ = some (.int .u8 y1) := by rw [← hy1]; exact R1.out.1.cell (I2) (by omega)
                have f2 : wc.cell? ⟨B, k2 + 1, none⟩ = some (.int .u8 y2) := by rw [← hy2]; exact R1.out.1.cell (k2 + 1) (by omega)
                have g1 := R1.out.1.frozen (I2)
                have g2 := R1.out.1.frozen (k2 + 1)
                obtain ⟨v3, u3⟩ := R1.out.1.third (I2) (k2 + 1) (by omega) (by omega) d2[k2 + 1]!
                have S := Lib.hid (R1.out.1.swapped (I2) (k2 + 1) (by omega) (by omega))
                rw [hy2] at u3
                rw [hy1, hy2] at S
                clear hy1 hy2
                go_wp2_with fail
                go_region
                have R4 := Lib.hid (show Rw enc T tl _ B (Sort.swp d2 (I2) (k2 + 1)) ∧ But B w _ ∧ (Sort.swp d2 (I2) (k2 + 1)).size = n from ⟨S.out.1, R1.out.2.1.trans S.out.2, by rw [Sort.size_swp]; exact R1.out.2.2⟩)
                clear f1 f2 g1 g2 u3 S R1 
                go_wp2
                go_roundg (k2 + 1 - (I2 + 1))
                case measure => omega
                case rel => exact ⟨I2 + 1, k2, _, by omega, by omega, by omega, by omega, by go_num, by go_num, HE2, R4⟩
end Go.Proofs.YtjjcoblbiagflaaGreat.ku
