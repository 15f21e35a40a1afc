/- partialInsertionSortOrdered at uint8 (laid by genpins.py). -/
import Derived.Test.YtjjcoblbiagflaaGreatPartU
namespace Go.Proofs.YtjjcoblbiagflaaGreat.ku
open Go.RowKit

theorem scanSorted_rng (d : Array A) (b : Nat) : ∀ m i, b - i = m → i ≤ b → i ≤ Sort.scanSorted lt d b i ∧ Sort.scanSorted lt d b i ≤ b := by
  intro m
  induction m with
  | zero => intro i hm hi; rw [Sort.scanSorted, if_neg (by simp; omega)]; exact ⟨Nat.le_refl _, hi⟩
  | succ m ih =>
    intro i hm hi
    rw [Sort.scanSorted]
    split
    · have := ih (i + 1) (by omega) (by omega); omega
    · exact ⟨Nat.le_refl _, hi⟩
theorem pins_done {d : Array A} {a b s i I : Nat} (hI : I = Sort.scanSorted lt d b i) (h : I = b) : Sort.partialIns lt a b (s + 1) i d = (d, true) := by
  subst hI
  unfold Sort.partialIns
  exact if_pos h
theorem pins_short {d : Array A} {a b s i I : Nat} (hI : I = Sort.scanSorted lt d b i) (h : ¬ I = b) (h2 : b - a < 50) : Sort.partialIns lt a b (s + 1) i d = (d, false) := by
  subst hI
  unfold Sort.partialIns
  exact (if_neg h).trans (if_pos h2)
theorem pins_go {d D2 D3 : Array A} {a b s i I : Nat} (hI : I = Sort.scanSorted lt d b i) (h : ¬ I = b) (h2 : ¬ b - a < 50) (e2 : D2 = if I - a ≥ 2 then Sort.shiftDown lt (I - 1) (Sort.swp d I (I - 1)) else Sort.swp d I (I - 1)) (e3 : D3 = if b - I ≥ 2 then Sort.shiftUp lt b (I + 1) D2 else D2) : Sort.partialIns lt a b (s + 1) i d = Sort.partialIns lt a b s I D3 := by
  subst e3 e2 hI
  conv => lhs; unfold Sort.partialIns
  exact (if_neg h).trans (if_neg h2)

set_option maxRecDepth 100000 in
set_option maxHeartbeats 8000000 in
theorem pins_any (B n cap a b : Nat) (tl : Array Value) (d : Array A) (w : World) (h : Rw enc T tl w B d) (hn : d.size = n) (hs : n ≤ 1000000) (hab : a < b) (hb : b ≤ n) :
    Calls Tryz.prog 59 #[.slice (some ⟨B, 0, none⟩) n cap, .int .i64 a, .int .i64 b] w fun e w' => e = .returned (.bool (Sort.partialInsertionSort lt d a b).2) ∧ Rw enc T tl w' B (Sort.partialInsertionSort lt d a b).1 ∧ But B w w' := by
  have KL := Lib.hid less_any
  have R0 := Lib.hid (And.intro h (And.intro (But.refl B w) hn))
  unfold Sort.partialInsertionSort
  obtain ⟨P, hP⟩ : ∃ P, P = Sort.partialIns lt a b 5 (a + 1) d := ⟨_, rfl⟩
  have HP := Lib.hid hP
  rw [← hP]
  obtain ⟨Z, hZ⟩ : ∃ Z, b - a = Z := ⟨_, rfl⟩
  have hw1 : IntKind.i64.wrap ((b : Int) - (a : Int)) = (Z : Int) := by rw [IntWalk.i64_in _ (by omega)]; omega
  clear h hn hP
  go_enter Tryz.func59, Tryz.ntmps59
  go_wp2
  go_loopg [7, 8] 5 (fun g v7 v8 wr => ∃ (s c i : Nat) (d2 : Array A), s + c = 5 ∧ s ≤ g ∧ a + 1 ≤ i ∧ i ≤ b ∧ v7 = .int .i64 (i : Int) ∧ v8 = .int .i64 (c : Int) ∧ Hid (P = Sort.partialIns lt a b s i d2) ∧ Hid (Rw enc T tl wr B d2 ∧ But B w wr ∧ d2.size = n))
  case atStart => exact ⟨5, 0, a + 1, _, by omega, by omega, by omega, by omega, by go_num, by go_num, HP, R0⟩
  case round =>
    clear R0 HP
    obtain ⟨s, c, i0, d2, hsc, hsg, hi1, hi2, rfl, rfl, E, R1⟩ := hrel
    cases s with
    | zero =>
      have hd1 : decide ((c : Int) < 5) = false := decide_eq_false (by omega)
      have HE : Hid (P = (d2, false)) := Lib.hid E.out
      clear E KL
      go_wp2
      go_ret
      rw [HE.out]
      exact ⟨rfl, R1.out.1, R1.out.2.1⟩
    | succ s =>
      have hd0 : decide ((c : Int) < 5) = true := decide_eq_true (by omega)
      obtain ⟨I, hI⟩ : ∃ I, I = Sort.scanSorted lt d2 b i0 := ⟨_, rfl⟩
      have HI := Lib.hid hI
      have bI : i0 ≤ I ∧ I ≤ b := by rw [hI]; exact scanSorted_rng _ _ _ _ rfl hi2
      clear hI
      have hsz := R1.out.2.2
      go_upto_block 2 with fail
      go_cut [7] from 13 to 132 (fun s7 wc => s7 = .int .i64 (I : Int) ∧ Hid (Rw enc T tl wc B d2 ∧ But B w wc ∧ d2.size = n))
      case first =>
        go_wp2_with fail
        go_loopw [7] (fun v7 wr => ∃ i : Nat, i0 ≤ i ∧ i ≤ b ∧ v7 = .int .i64 (i : Int) ∧ Hid (I = Sort.scanSorted lt d2 b i) ∧ Hid (Rw enc T tl wr B d2 ∧ But B w wr ∧ d2.size = n)) (fun s _ => b - (intOf s).toNat)
        case atStart => exact ⟨i0, Nat.le_refl _, by omega, by go_num, HI, R1⟩
        case round =>
          clear R1 HI
          obtain ⟨i, hi3, hi4, rfl, E2, R⟩ := hrel
          by_cases hij : i < b
          · obtain ⟨k, rfl⟩ : ∃ k, i = k + 1 := ⟨i - 1, by omega⟩
            have hd1 : decide ((k : Int) + 1 < (b : Int)) = true := decide_eq_true (by omega)
            cases c1 : lt d2[k + 1]! d2[k]! with
            | false =>
              have hst := E2.out
              rw [Sort.scanSorted, if_pos (by simp [hij, c1])] at hst
              have HST := Lib.hid hst
              clear hst E2
              obtain ⟨x1, hx1⟩ := enc_ex d2[k + 1]!
              obtain ⟨x2, hx2⟩ := enc_ex d2[k]!
              have fx1 : wr.cell? ⟨B, k + 1, none⟩ = some (.int .u8 x1) := by rw [← hx1]; exact R.out.1.cell (k + 1) (by omega)
              have fx2 : wr.cell? ⟨B, k, none⟩ = some (.int .u8 x2) := by rw [← hx2]; exact R.out.1.cell (k) (by omega)
              have ex1 := fun d os => cell_regrown fx1 d os
              have ex2 := fun d os => cell_regrown fx2 d os
              have r1K := Lib.hid (fun w => KL.out d2[k + 1]! d2[k]! w)
              rw [hx1, hx2, c1] at r1K
              have r1 := fun d' os => Calls.regrown_of (w := wr) (d := d') (os := os) ((r1K.out _).mono fun _ _ h => ⟨h.1, by rw [h.2]; exact Below.refl _ _⟩)
              clear hx1 hx2 fx1 fx2 r1K
              go_wp2
              refine wp_region_quiet_below (by kernel_rfl) (by kernel_rfl) ?_
              repeat (go_big_quiet_step (with_reducible exact r1 _ _))
              refine wpQuiet_nil ?_
              intro W1 hw'
              have hbW1 : Below wr.heap.size wr W1 := by
                obtain ⟨⟨dq, osq⟩, hw''⟩ := hw'
                rw [hw'']; exact below_regrown _ dq osq
              have R3 := Lib.hid (And.intro (R.out.1.below hbW1) (And.intro (R.out.2.1.trans (But.of_below hbW1)) R.out.2.2))
              clear hw' hbW1 R r1 ex1 ex2 c1 KL
              go_wp2
              go_roundw
              case rel => exact ⟨k + 1 + 1, by omega, by omega, by go_num, HST, R3⟩
              case measure => simp [intOf]; omega
            | true =>
              have hst := E2.out
              rw [Sort.scanSorted, if_neg (by simp [c1])] at hst
              have HST := Lib.hid hst
              clear hst E2
              obtain ⟨x1, hx1⟩ := enc_ex d2[k + 1]!
              obtain ⟨x2, hx2⟩ := enc_ex d2[k]!
              have fx1 : wr.cell? ⟨B, k + 1, none⟩ = some (.int .u8 x1) := by rw [← hx1]; exact R.out.1.cell (k + 1) (by omega)
              have fx2 : wr.cell? ⟨B, k, none⟩ = some (.int .u8 x2) := by rw [← hx2]; exact R.out.1.cell (k) (by omega)
              have ex1 := fun d os => cell_regrown fx1 d os
              have ex2 := fun d os => cell_regrown fx2 d os
              have r1K := Lib.hid (fun w => KL.out d2[k + 1]! d2[k]! w)
              rw [hx1, hx2, c1] at r1K
              have r1 := fun d' os => Calls.regrown_of (w := wr) (d := d') (os := os) ((r1K.out _).mono fun _ _ h => ⟨h.1, by rw [h.2]; exact Below.refl _ _⟩)
              clear hx1 hx2 fx1 fx2 r1K
              go_wp2
              refine wp_region_quiet_below (by kernel_rfl) (by kernel_rfl) ?_
              repeat (go_big_quiet_step (with_reducible exact r1 _ _))
              refine wpQuiet_nil ?_
              intro W1 hw'
              have hbW1 : Below wr.heap.size wr W1 := by
                obtain ⟨⟨dq, osq⟩, hw''⟩ := hw'
                rw [hw'']; exact below_regrown _ dq osq
              have R3 := Lib.hid (And.intro (R.out.1.below hbW1) (And.intro (R.out.2.1.trans (But.of_below hbW1)) R.out.2.2))
              clear hw' hbW1 R r1 ex1 ex2 c1 KL
              go_wp2
              go_meet
              case rel => exact ⟨by rw [HST.out]; try rfl, R3⟩
          · have hd1 : decide ((i : Int) < (b : Int)) = false := decide_eq_false (by omega)
            have hst := E2.out
            rw [Sort.scanSorted, if_neg (by simp [hij])] at hst
            have HST := Lib.hid hst
            clear hst E2
            go_wp2
            refine wp_region_quiet_below (by kernel_rfl) (by kernel_rfl) ?_
            repeat (go_big_quiet_step (fail))
            refine wpQuiet_nil ?_
            intro W1 hw'
            have hbW1 : Below wr.heap.size wr W1 := by
              obtain ⟨⟨dq, osq⟩, hw''⟩ := hw'
              rw [hw'']; exact below_regrown _ dq osq
            have R3 := Lib.hid (And.intro (R.out.1.below hbW1) (And.intro (R.out.2.1.trans (But.of_below hbW1)) R.out.2.2))
            clear hw' hbW1 R KL
            go_wp2
            go_meet
            case rel => exact ⟨by rw [HST.out], R3⟩
      case rest =>
        clear R1
        obtain ⟨rfl, R1⟩ := hcut
        have hsz := R1.out.2.2
        by_cases hIb : I = b
        · have HE := Lib.hid (E.out.trans (pins_done HI.out hIb))
          clear E HI KL
          subst hIb
          go_wp2
          go_ret
          rw [HE.out]
          exact ⟨rfl, R1.out.1, R1.out.2.1⟩
        have hne : ¬ ((I : Int) = (b : Int)) := by omega
        by_cases hZ5 : Z < 50
        · have HE := Lib.hid (E.out.trans (pins_short HI.out hIb (by omega)))
          have hd1 : decide ((Z : Int) < 50) = true := decide_eq_true (by omega)
          clear E HI KL
          go_wp2
          go_ret
          rw [HE.out]
          exact ⟨rfl, R1.out.1, R1.out.2.1⟩
        have hd1 : decide ((Z : Int) < 50) = false := decide_eq_false (by omega)
        obtain ⟨D2, hD2⟩ : ∃ D2, D2 = if I - a ≥ 2 then Sort.shiftDown lt (I - 1) (Sort.swp d2 I (I - 1)) else Sort.swp d2 I (I - 1) := ⟨_, rfl⟩
        obtain ⟨D3, hD3⟩ : ∃ D3, D3 = if b - I ≥ 2 then Sort.shiftUp lt b (I + 1) D2 else D2 := ⟨_, rfl⟩
        have HE := Lib.hid (E.out.trans (pins_go HI.out hIb (by omega) hD2 hD3))
        obtain ⟨k, rfl⟩ : ∃ k, I = k + 1 := ⟨I - 1, by omega⟩
        obtain ⟨Y, hY⟩ : ∃ Y, k + 1 - a = Y := ⟨_, rfl⟩
        obtain ⟨X, hX⟩ : ∃ X, b - (k + 1) = X := ⟨_, rfl⟩
        have hw2 : IntKind.i64.wrap ((k : Int) + 1 - (a : Int)) = (Y : Int) := by rw [IntWalk.i64_in _ (by omega)]; omega
        have hw3 : IntKind.i64.wrap ((b : Int) - ((k : Int) + 1)) = (X : Int) := by rw [IntWalk.i64_in _ (by omega)]; omega
        rw [hY] at hD2
        rw [hX] at hD3
        simp only [Nat.add_sub_cancel] at hD2
        have HD2 := Lib.hid hD2
        have HD3 := Lib.hid hD3
        clear hD2 hD3 E HI
        have hne2 : ¬ ((k : Int) + 1 = (b : Int)) := by omega
        clear hne
        obtain ⟨y1, hy1⟩ := enc_ex d2[k + 1]!
        obtain ⟨y2, hy2⟩ := enc_ex d2[k]!
        have f1 : wc.cell? ⟨B, k + 1, none⟩ = some (.int .u8 y1) := by rw [← hy1]; exact R1.out.1.cell (k + 1) (by omega)
        have f2 : wc.cell? ⟨B, k, none⟩ = some (.int .u8 y2) := by rw [← hy2]; exact R1.out.1.cell (k) (by omega)
        have g1 := R1.out.1.frozen (k + 1)
        have g2 := R1.out.1.frozen (k)
        obtain ⟨v3, u3⟩ := R1.out.1.third (k + 1) (k) (by omega) (by omega) d2[k]!
        have S := Lib.hid (R1.out.1.swapped (k + 1) (k) (by omega) (by omega))
        rw [hy2] at u3
        rw [hy1, hy2] at S
        clear hy1 hy2
        go_wp2_with fail
        go_region
        have R4 := Lib.hid (show Rw enc T tl _ B (Sort.swp d2 (k + 1) (k)) ∧ But B w _ ∧ (Sort.swp d2 (k + 1) (k)).size = n from ⟨S.out.1, R1.out.2.1.trans S.out.2, by rw [Sort.size_swp]; exact R1.out.2.2⟩)
        clear f1 f2 g1 g2 u3 S R1 
        obtain ⟨D1, hD1⟩ : ∃ D1, D1 = Sort.swp d2 (k + 1) k := ⟨_, rfl⟩
        rw [← hD1] at R4 HD2
        clear hD1 hsz hd1 hd0 hne2
        have hsz := R4.out.2.2
        go_upto_if 61 with fail
        go_cut [] from 13 to 132 (fun wc => Hid (Rw enc T tl wc B D2 ∧ But B w wc ∧ D2.size = n))
        case first =>
          clear HD3 HE
          by_cases hY2 : 2 ≤ Y
          · have hst := HD2.out
            rw [if_pos hY2] at hst
            have HST := Lib.hid hst
            have hd1 : decide ((2 : Int) ≤ (Y : Int)) = true := decide_eq_true (by omega)
            clear hst HD2
            go_wp2_with fail
            go_loopw [9] (fun v9 wr => ∃ (j : Nat) (dd : Array A), j ≤ k ∧ v9 = .int .i64 (j : Int) ∧ Hid (D2 = Sort.shiftDown lt j dd) ∧ Hid (Rw enc T tl wr B dd ∧ But B w wr ∧ dd.size = n)) (fun s _ => (intOf s).toNat)
            case atStart => exact ⟨k, D1, Nat.le_refl _, by go_num, HST, R4⟩
            case round =>
              clear R4 HST hd1 hsz
              obtain ⟨j, dd, hj, rfl, E2, R⟩ := hrel
              have hsz := R.out.2.2
              cases j with
              | zero =>
                have R3 : Hid (Rw enc T tl wr B D2 ∧ But B w wr ∧ D2.size = n) := by
                  have hst := E2.out
                  rw [Sort.shiftDown] at hst
                  rw [hst]; exact R
                clear E2 R
                go_wp2
                go_meet
                case rel => exact R3
              | succ j =>
                have hd1 : decide ((1 : Int) ≤ (j : Int) + 1) = true := decide_eq_true (by omega)
                cases c1 : lt dd[j + 1]! dd[j]! with
                | true =>
                  have hst := E2.out
                  rw [Sort.shiftDown, if_neg (by simp [c1])] at hst
                  have HST := Lib.hid hst
                  clear hst E2
                  obtain ⟨x1, hx1⟩ := enc_ex dd[j + 1]!
                  obtain ⟨x2, hx2⟩ := enc_ex dd[j]!
                  have fx1 : wr.cell? ⟨B, j + 1, none⟩ = some (.int .u8 x1) := by rw [← hx1]; exact R.out.1.cell (j + 1) (by omega)
                  have fx2 : wr.cell? ⟨B, j, none⟩ = some (.int .u8 x2) := by rw [← hx2]; exact R.out.1.cell (j) (by omega)
                  have ex1 := fun d os => cell_regrown fx1 d os
                  have ex2 := fun d os => cell_regrown fx2 d os
                  have r1K := Lib.hid (fun w => KL.out dd[j + 1]! dd[j]! w)
                  rw [hx1, hx2, c1] at r1K
                  have r1 := fun d' os => Calls.regrown_of (w := wr) (d := d') (os := os) ((r1K.out _).mono fun _ _ h => ⟨h.1, by rw [h.2]; exact Below.refl _ _⟩)
                  clear hx1 hx2 fx1 fx2 r1K
                  go_wp2
                  refine wp_region_quiet_below (by kernel_rfl) (by kernel_rfl) ?_
                  repeat (go_big_quiet_step (with_reducible exact r1 _ _))
                  refine wpQuiet_nil ?_
                  intro W1 hw'
                  have hbW1 : Below wr.heap.size wr W1 := by
                    obtain ⟨⟨dq, osq⟩, hw''⟩ := hw'
                    rw [hw'']; exact below_regrown _ dq osq
                  have R3 := Lib.hid (And.intro (R.out.1.below hbW1) (And.intro (R.out.2.1.trans (But.of_below hbW1)) R.out.2.2))
                  clear hw' hbW1 R r1 ex1 ex2 c1 KL
                  obtain ⟨y1, hy1⟩ := enc_ex dd[j + 1]!
                  obtain ⟨y2, hy2⟩ := enc_ex dd[j]!
                  have f1 : W1.cell? ⟨B, j + 1, none⟩ = some (.int .u8 y1) := by rw [← hy1]; exact R3.out.1.cell (j + 1) (by omega)
                  have f2 : W1.cell? ⟨B, j, none⟩ = some (.int .u8 y2) := by rw [← hy2]; exact R3.out.1.cell (j) (by omega)
                  have g1 := R3.out.1.frozen (j + 1)
                  have g2 := R3.out.1.frozen (j)
                  obtain ⟨v3, u3⟩ := R3.out.1.third (j + 1) (j) (by omega) (by omega) dd[j]!
                  have S := Lib.hid (R3.out.1.swapped (j + 1) (j) (by omega) (by omega))
                  rw [hy2] at u3
                  rw [hy1, hy2] at S
                  clear hy1 hy2
                  go_wp2_with fail
                  go_region
                  have R5 := Lib.hid (show Rw enc T tl _ B (Sort.swp dd (j + 1) (j)) ∧ But B w _ ∧ (Sort.swp dd (j + 1) (j)).size = n from ⟨S.out.1, R3.out.2.1.trans S.out.2, by rw [Sort.size_swp]; exact R3.out.2.2⟩)
                  clear f1 f2 g1 g2 u3 S R3 
                  go_wp2
                  go_roundw
                  case rel => exact ⟨j, _, by omega, by go_num, HST, R5⟩
                  case measure => simp [intOf]
                | false =>
                  have hst := E2.out
                  rw [Sort.shiftDown, if_pos (by simp [c1])] at hst
                  have HST := Lib.hid hst
                  clear hst E2
                  obtain ⟨x1, hx1⟩ := enc_ex dd[j + 1]!
                  obtain ⟨x2, hx2⟩ := enc_ex dd[j]!
                  have fx1 : wr.cell? ⟨B, j + 1, none⟩ = some (.int .u8 x1) := by rw [← hx1]; exact R.out.1.cell (j + 1) (by omega)
                  have fx2 : wr.cell? ⟨B, j, none⟩ = some (.int .u8 x2) := by rw [← hx2]; exact R.out.1.cell (j) (by omega)
                  have ex1 := fun d os => cell_regrown fx1 d os
                  have ex2 := fun d os => cell_regrown fx2 d os
                  have r1K := Lib.hid (fun w => KL.out dd[j + 1]! dd[j]! w)
                  rw [hx1, hx2, c1] at r1K
                  have r1 := fun d' os => Calls.regrown_of (w := wr) (d := d') (os := os) ((r1K.out _).mono fun _ _ h => ⟨h.1, by rw [h.2]; exact Below.refl _ _⟩)
                  clear hx1 hx2 fx1 fx2 r1K
                  go_wp2
                  refine wp_region_quiet_below (by kernel_rfl) (by kernel_rfl) ?_
                  repeat (go_big_quiet_step (with_reducible exact r1 _ _))
                  refine wpQuiet_nil ?_
                  intro W1 hw'
                  have hbW1 : Below wr.heap.size wr W1 := by
                    obtain ⟨⟨dq, osq⟩, hw''⟩ := hw'
                    rw [hw'']; exact below_regrown _ dq osq
                  have R3 := Lib.hid (And.intro (R.out.1.below hbW1) (And.intro (R.out.2.1.trans (But.of_below hbW1)) R.out.2.2))
                  clear hw' hbW1 R r1 ex1 ex2 c1 KL
                  go_wp2
                  go_meet
                  case rel => exact (by rw [HST.out]; exact R3)
          · have hst := HD2.out
            rw [if_neg hY2] at hst
            have R5 := R4
            rw [← hst] at R5
            clear hst
            have hd1 : decide ((2 : Int) ≤ (Y : Int)) = false := decide_eq_false (by omega)
            clear HD2 R4
            go_wp2_with fail
            go_meet
            case rel => exact R5
        case rest =>
          clear R4 HD2 hsz
          have R4 := hcut
          clear hcut
          have hsz := R4.out.2.2
          by_cases hX2 : 2 ≤ X
          · have hst := HD3.out
            rw [if_pos hX2] at hst
            have HST := Lib.hid hst
            have hd1 : decide ((2 : Int) ≤ (X : Int)) = true := decide_eq_true (by omega)
            clear hst HD3
            go_wp2_with fail
            go_loopw [10] (fun v10 wr => ∃ (j : Nat) (dd : Array A), k + 1 ≤ j ∧ j ≤ b ∧ v10 = .int .i64 (j : Int) ∧ Hid (D3 = Sort.shiftUp lt b j dd) ∧ Hid (Rw enc T tl wr B dd ∧ But B w wr ∧ dd.size = n)) (fun s _ => b - (intOf s).toNat)
            case atStart => exact ⟨k + 1 + 1, D2, by omega, by omega, by go_num, HST, R4⟩
            case round =>
              clear R4 HST hd1 hsz
              obtain ⟨j, dd, hj1, hj2, rfl, E2, R⟩ := hrel
              have hsz := R.out.2.2
              by_cases hjb : j < b
              · obtain ⟨j, rfl⟩ : ∃ j0, j = j0 + 1 := ⟨j - 1, by omega⟩
                have hd1 : decide ((j : Int) + 1 < (b : Int)) = true := decide_eq_true (by omega)
                cases c1 : lt dd[j + 1]! dd[j]! with
                | true =>
                  have hst := E2.out
                  rw [Sort.shiftUp, if_pos hjb, if_neg (by simp [c1])] at hst
                  simp only [Nat.add_sub_cancel] at hst
                  have HST := Lib.hid hst
                  clear hst E2 HE
                  obtain ⟨x1, hx1⟩ := enc_ex dd[j + 1]!
                  obtain ⟨x2, hx2⟩ := enc_ex dd[j]!
                  have fx1 : wr.cell? ⟨B, j + 1, none⟩ = some (.int .u8 x1) := by rw [← hx1]; exact R.out.1.cell (j + 1) (by omega)
                  have fx2 : wr.cell? ⟨B, j, none⟩ = some (.int .u8 x2) := by rw [← hx2]; exact R.out.1.cell (j) (by omega)
                  have ex1 := fun d os => cell_regrown fx1 d os
                  have ex2 := fun d os => cell_regrown fx2 d os
                  have r1K := Lib.hid (fun w => KL.out dd[j + 1]! dd[j]! w)
                  rw [hx1, hx2, c1] at r1K
                  have r1 := fun d' os => Calls.regrown_of (w := wr) (d := d') (os := os) ((r1K.out _).mono fun _ _ h => ⟨h.1, by rw [h.2]; exact Below.refl _ _⟩)
                  clear hx1 hx2 fx1 fx2 r1K
                  go_wp2
                  refine wp_region_quiet_below (by kernel_rfl) (by kernel_rfl) ?_
                  repeat (go_big_quiet_step (with_reducible exact r1 _ _))
                  refine wpQuiet_nil ?_
                  intro W1 hw'
                  have hbW1 : Below wr.heap.size wr W1 := by
                    obtain ⟨⟨dq, osq⟩, hw''⟩ := hw'
                    rw [hw'']; exact below_regrown _ dq osq
                  have R3 := Lib.hid (And.intro (R.out.1.below hbW1) (And.intro (R.out.2.1.trans (But.of_below hbW1)) R.out.2.2))
                  clear hw' hbW1 R r1 ex1 ex2 c1 KL
                  obtain ⟨y1, hy1⟩ := enc_ex dd[j + 1]!
                  obtain ⟨y2, hy2⟩ := enc_ex dd[j]!
                  have f1 : W1.cell? ⟨B, j + 1, none⟩ = some (.int .u8 y1) := by rw [← hy1]; exact R3.out.1.cell (j + 1) (by omega)
                  have f2 : W1.cell? ⟨B, j, none⟩ = some (.int .u8 y2) := by rw [← hy2]; exact R3.out.1.cell (j) (by omega)
                  have g1 := R3.out.1.frozen (j + 1)
                  have g2 := R3.out.1.frozen (j)
                  obtain ⟨v3, u3⟩ := R3.out.1.third (j + 1) (j) (by omega) (by omega) dd[j]!
                  have S := Lib.hid (R3.out.1.swapped (j + 1) (j) (by omega) (by omega))
                  rw [hy2] at u3
                  rw [hy1, hy2] at S
                  clear hy1 hy2
                  go_wp2_with fail
                  go_region
                  have R5 := Lib.hid (show Rw enc T tl _ B (Sort.swp dd (j + 1) (j)) ∧ But B w _ ∧ (Sort.swp dd (j + 1) (j)).size = n from ⟨S.out.1, R3.out.2.1.trans S.out.2, by rw [Sort.size_swp]; exact R3.out.2.2⟩)
                  clear f1 f2 g1 g2 u3 S R3 
                  go_wp2
                  go_roundw
                  case rel => exact ⟨j + 1 + 1, _, by omega, by omega, by go_num, HST, R5⟩
                  case measure => simp [intOf]; omega
                | false =>
                  have hst := E2.out
                  rw [Sort.shiftUp, if_pos hjb, if_pos (by simp [c1])] at hst
                  have HST := Lib.hid hst
                  clear hst E2
                  obtain ⟨x1, hx1⟩ := enc_ex dd[j + 1]!
                  obtain ⟨x2, hx2⟩ := enc_ex dd[j]!
                  have fx1 : wr.cell? ⟨B, j + 1, none⟩ = some (.int .u8 x1) := by rw [← hx1]; exact R.out.1.cell (j + 1) (by omega)
                  have fx2 : wr.cell? ⟨B, j, none⟩ = some (.int .u8 x2) := by rw [← hx2]; exact R.out.1.cell (j) (by omega)
                  have ex1 := fun d os => cell_regrown fx1 d os
                  have ex2 := fun d os => cell_regrown fx2 d os
                  have r1K := Lib.hid (fun w => KL.out dd[j + 1]! dd[j]! w)
                  rw [hx1, hx2, c1] at r1K
                  have r1 := fun d' os => Calls.regrown_of (w := wr) (d := d') (os := os) ((r1K.out _).mono fun _ _ h => ⟨h.1, by rw [h.2]; exact Below.refl _ _⟩)
                  clear hx1 hx2 fx1 fx2 r1K
                  go_wp2
                  refine wp_region_quiet_below (by kernel_rfl) (by kernel_rfl) ?_
                  repeat (go_big_quiet_step (with_reducible exact r1 _ _))
                  refine wpQuiet_nil ?_
                  intro W1 hw'
                  have hbW1 : Below wr.heap.size wr W1 := by
                    obtain ⟨⟨dq, osq⟩, hw''⟩ := hw'
                    rw [hw'']; exact below_regrown _ dq osq
                  have R3 := Lib.hid (And.intro (R.out.1.below hbW1) (And.intro (R.out.2.1.trans (But.of_below hbW1)) R.out.2.2))
                  clear hw' hbW1 R r1 ex1 ex2 c1 KL
                  rw [← HST.out] at R3
                  go_wp2
                  go_roundg s
                  case measure => omega
                  case rel => exact ⟨s, c + 1, k + 1, D3, by omega, by omega, by omega, by omega, by go_num, by go_num, HE, R3⟩
              · have R3 : Hid (Rw enc T tl wr B D3 ∧ But B w wr ∧ D3.size = n) := by
                  have hst := E2.out
                  rw [Sort.shiftUp, if_neg hjb] at hst
                  rw [hst]; exact R
                have hd1 : decide ((j : Int) < (b : Int)) = false := decide_eq_false (by omega)
                clear E2 R KL
                go_wp2
                go_roundg s
                case measure => omega
                case rel => exact ⟨s, c + 1, k + 1, D3, by omega, by omega, by omega, by omega, by go_num, by go_num, HE, R3⟩
          · have hst := HD3.out
            rw [if_neg hX2] at hst
            have R3 := R4
            rw [← hst] at R3
            clear hst
            have hd1 : decide ((2 : Int) ≤ (X : Int)) = false := decide_eq_false (by omega)
            clear HD3 R4 KL
            go_wp2_with fail
            go_roundg s
            case measure => omega
            case rel => exact ⟨s, c + 1, k + 1, D3, by omega, by omega, by omega, by omega, by go_num, by go_num, HE, R3⟩
end Go.Proofs.YtjjcoblbiagflaaGreat.ku
