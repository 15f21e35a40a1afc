/- siftDownOrdered at uint8 (laid by gensift.py). -/
import Derived.Test.YtjjcoblbiagflaaGreatKu8
namespace Go.Proofs.YtjjcoblbiagflaaGreat.ku
open Go.RowKit

theorem sift_stop {hi first r : Nat} {d : Array A} (h : hi ≤ 2 * r + 1) : Sort.siftDown lt hi first r d = d := by
  rw [Sort.siftDown, dif_pos h]
theorem sift_right {hi first r : Nat} {d : Array A} (h : 2 * r + 1 + 1 < hi) (hl : lt d[first + (2 * r + 1)]! d[first + (2 * r + 1) + 1]! = true) :
    Sort.siftDown lt hi first r d = if lt d[first + r]! d[first + (2 * r + 1 + 1)]! = true then Sort.siftDown lt hi first (2 * r + 1 + 1) (Sort.swp d (first + r) (first + (2 * r + 1 + 1))) else d := by
  rw [Sort.siftDown, dif_neg (by omega), if_pos (by simp [h, hl]), dif_pos (by omega)]
  cases lt d[first + r]! d[first + (2 * r + 1 + 1)]! <;> simp
theorem sift_left {hi first r : Nat} {d : Array A} (h0 : 2 * r + 1 < hi) (h : ¬ (2 * r + 1 + 1 < hi ∧ lt d[first + (2 * r + 1)]! d[first + (2 * r + 1) + 1]! = true)) :
    Sort.siftDown lt hi first r d = if lt d[first + r]! d[first + (2 * r + 1)]! = true then Sort.siftDown lt hi first (2 * r + 1) (Sort.swp d (first + r) (first + (2 * r + 1))) else d := by
  rw [Sort.siftDown, dif_neg (by omega), if_neg (by simpa using h)]
  cases lt d[first + r]! d[first + (2 * r + 1)]! <;> simp
set_option maxRecDepth 100000 in
set_option maxHeartbeats 4000000 in
theorem sift_any (B n cap lo hi first : Nat) (tl : Array Value) (d : Array A) (w : World) (h : Rw enc T tl w B d) (hn : d.size = n) (hs : n ≤ 1000000) (hlo : lo ≤ n) (hh : first + hi ≤ n) :
    Calls Tryz.prog 91 #[.slice (some ⟨B, 0, none⟩) n cap, .int .i64 lo, .int .i64 hi, .int .i64 first] w fun e w' => e = .returned (.tuple #[]) ∧ Rw enc T tl w' B (Sort.siftDown lt hi first lo d) ∧ But B w w' ∧ (Sort.siftDown lt hi first lo d).size = n := by
  have KL := Lib.hid less_any
  have H0 := Lib.hid (And.intro h (And.intro (But.refl B w) hn))
  obtain ⟨D, hD⟩ : ∃ D, D = Sort.siftDown lt hi first lo d := ⟨_, rfl⟩
  have HD := Lib.hid hD
  rw [← hD]
  clear h hn hD
  go_enter Tryz.func91, Tryz.ntmps91
  go_wp2
  go_loopw [8] (fun v8 wr => ∃ (r : Nat) (d' : Array A), r ≤ n ∧ v8 = .int .i64 (r : Int) ∧ Hid (D = Sort.siftDown lt hi first r d') ∧ Hid (Rw enc T tl wr B d' ∧ But B w wr ∧ d'.size = n)) (fun s _ => n - (intOf s).toNat)
  case atStart => exact ⟨lo, d, hlo, rfl, HD, H0⟩
  case round =>
    clear H0 HD
    obtain ⟨r, d2, hr, rfl, E, R⟩ := hrel
    have hsz := R.out.2.2
    by_cases h1 : hi ≤ 2 * r + 1
    · have hst := E.out
      rw [sift_stop h1] at hst
      have R2 := R.out
      rw [← hst] at R2
      have R3 := Lib.hid R2
      have hd1 : decide ((hi : Int) ≤ 2 * (r : Int) + 1) = true := decide_eq_true (by omega)
      clear R E hst R2 hsz
      go_wp2
      first | go_end0 | ((try simp only [Exit.inBlock, Exit.then]); refine bodyPost_ret (results_none rfl _ _ _) rfl ?_)
      exact ⟨rfl, R3.out.1, R3.out.2.1, R3.out.2.2⟩
    have hd1 : decide ((hi : Int) ≤ 2 * (r : Int) + 1) = false := decide_eq_false (by omega)
    by_cases h2 : 2 * r + 1 + 1 < hi
    · have hd2 : decide (2 * (r : Int) + 1 + 1 < (hi : Int)) = true := decide_eq_true (by omega)
      cases c1 : lt d2[first + (2 * r + 1)]! d2[first + (2 * r + 1) + 1]! with
      | true =>
        have E2 := E.out
        rw [sift_right h2 c1] at E2
        obtain ⟨x1, hx1⟩ := enc_ex d2[first + (2 * r + 1)]!
        obtain ⟨x2, hx2⟩ := enc_ex d2[first + (2 * r + 1) + 1]!
        have fx1 : wr.cell? ⟨B, first + (2 * r + 1), none⟩ = some (.int .u8 x1) := by rw [← hx1]; exact R.out.1.cell (first + (2 * r + 1)) (by omega)
        have fx2 : wr.cell? ⟨B, first + (2 * r + 1) + 1, none⟩ = some (.int .u8 x2) := by rw [← hx2]; exact R.out.1.cell (first + (2 * r + 1) + 1) (by omega)
        have ex1 := fun d os => cell_regrown fx1 d os
        have ex2 := fun d os => cell_regrown fx2 d os
        have r1K := Lib.hid (fun w => KL.out d2[first + (2 * r + 1)]! d2[first + (2 * r + 1) + 1]! w)
        rw [hx1, hx2, c1] at r1K
        have r1 := fun d' os => Calls.regrown_of (w := wr) (d := d') (os := os) ((r1K.out _).mono fun _ _ h => ⟨h.1, by rw [h.2]; exact Below.refl _ _⟩)
        clear hx1 hx2 fx1 fx2 r1K
        go_wp2
        refine wp_region_quiet_below (by kernel_rfl) (by kernel_rfl) ?_
        repeat (go_big_quiet_step (with_reducible exact r1 _ _))
        refine wpQuiet_nil ?_
        intro W1 hw'
        have hbW1 : Below wr.heap.size wr W1 := by
          obtain ⟨⟨dq, osq⟩, hw''⟩ := hw'
          rw [hw'']; exact below_regrown _ dq osq
        have R3 := Lib.hid (And.intro (R.out.1.below hbW1) (And.intro (R.out.2.1.trans (But.of_below hbW1)) R.out.2.2))
        clear hw' hbW1 R r1 ex1 ex2 c1 E
        have hcn : 2 * r + 1 + 1 < n := by omega
        cases c2 : lt d2[first + r]! d2[first + (2 * r + 1 + 1)]! with
        | true =>
          rw [if_pos c2] at E2
          have HST := Lib.hid E2
          clear E2
          obtain ⟨z1, hz1⟩ := enc_ex d2[first + r]!
          obtain ⟨z2, hz2⟩ := enc_ex d2[first + (2 * r + 1 + 1)]!
          have fz1 : W1.cell? ⟨B, first + r, none⟩ = some (.int .u8 z1) := by rw [← hz1]; exact R3.out.1.cell (first + r) (by omega)
          have fz2 : W1.cell? ⟨B, first + (2 * r + 1 + 1), none⟩ = some (.int .u8 z2) := by rw [← hz2]; exact R3.out.1.cell (first + (2 * r + 1 + 1)) (by omega)
          have ez1 := fun d os => cell_regrown fz1 d os
          have ez2 := fun d os => cell_regrown fz2 d os
          have r2K := Lib.hid (fun w => KL.out d2[first + r]! d2[first + (2 * r + 1 + 1)]! w)
          rw [hz1, hz2, c2] at r2K
          have r2 := fun d' os => Calls.regrown_of (w := W1) (d := d') (os := os) ((r2K.out _).mono fun _ _ h => ⟨h.1, by rw [h.2]; exact Below.refl _ _⟩)
          clear hz1 hz2 fz1 fz2 r2K
          go_wp2
          refine wp_region_quiet_below (by kernel_rfl) (by kernel_rfl) ?_
          repeat (go_big_quiet_step (with_reducible exact r2 _ _))
          refine wpQuiet_nil ?_
          intro W2 hw'
          have hbW2 : Below W1.heap.size W1 W2 := by
            obtain ⟨⟨dq, osq⟩, hw''⟩ := hw'
            rw [hw'']; exact below_regrown _ dq osq
          have R5 := Lib.hid (And.intro (R3.out.1.below hbW2) (And.intro (R3.out.2.1.trans (But.of_below hbW2)) R3.out.2.2))
          clear hw' hbW2 R3 r2 ez1 ez2 c2 KL
          obtain ⟨y1, hy1⟩ := enc_ex d2[first + r]!
          obtain ⟨y2, hy2⟩ := enc_ex d2[first + (2 * r + 1 + 1)]!
          have f1 : W2.cell? ⟨B, first + r, none⟩ = some (.int .u8 y1) := by rw [← hy1]; exact R5.out.1.cell (first + r) (by omega)
          have f2 : W2.cell? ⟨B, first + (2 * r + 1 + 1), none⟩ = some (.int .u8 y2) := by rw [← hy2]; exact R5.out.1.cell (first + (2 * r + 1 + 1)) (by omega)
          have g1 := R5.out.1.frozen (first + r)
          have g2 := R5.out.1.frozen (first + (2 * r + 1 + 1))
          obtain ⟨v3, u3⟩ := R5.out.1.third (first + r) (first + (2 * r + 1 + 1)) (by omega) (by omega) d2[first + (2 * r + 1 + 1)]!
          have S := Lib.hid (R5.out.1.swapped (first + r) (first + (2 * r + 1 + 1)) (by omega) (by omega))
          rw [hy2] at u3
          rw [hy1, hy2] at S
          clear hy1 hy2
          go_wp2_with fail
          go_region
          have R6 := Lib.hid (show Rw enc T tl _ B (Sort.swp d2 (first + r) (first + (2 * r + 1 + 1))) ∧ But B w _ ∧ (Sort.swp d2 (first + r) (first + (2 * r + 1 + 1))).size = n from ⟨S.out.1, R5.out.2.1.trans S.out.2, by rw [Sort.size_swp]; exact R5.out.2.2⟩)
          clear f1 f2 g1 g2 u3 S R5 
          go_wp2
          go_roundw
          case rel => exact ⟨2 * r + 1 + 1, _, by omega, by go_num, HST, R6⟩
          case measure => simp [intOf]; omega
        | false =>
          rw [if_neg (by rw [c2]; decide)] at E2
          obtain ⟨z1, hz1⟩ := enc_ex d2[first + r]!
          obtain ⟨z2, hz2⟩ := enc_ex d2[first + (2 * r + 1 + 1)]!
          have fz1 : W1.cell? ⟨B, first + r, none⟩ = some (.int .u8 z1) := by rw [← hz1]; exact R3.out.1.cell (first + r) (by omega)
          have fz2 : W1.cell? ⟨B, first + (2 * r + 1 + 1), none⟩ = some (.int .u8 z2) := by rw [← hz2]; exact R3.out.1.cell (first + (2 * r + 1 + 1)) (by omega)
          have ez1 := fun d os => cell_regrown fz1 d os
          have ez2 := fun d os => cell_regrown fz2 d os
          have r2K := Lib.hid (fun w => KL.out d2[first + r]! d2[first + (2 * r + 1 + 1)]! w)
          rw [hz1, hz2, c2] at r2K
          have r2 := fun d' os => Calls.regrown_of (w := W1) (d := d') (os := os) ((r2K.out _).mono fun _ _ h => ⟨h.1, by rw [h.2]; exact Below.refl _ _⟩)
          clear hz1 hz2 fz1 fz2 r2K
          go_wp2
          refine wp_region_quiet_below (by kernel_rfl) (by kernel_rfl) ?_
          repeat (go_big_quiet_step (with_reducible exact r2 _ _))
          refine wpQuiet_nil ?_
          intro W2 hw'
          have hbW2 : Below W1.heap.size W1 W2 := by
            obtain ⟨⟨dq, osq⟩, hw''⟩ := hw'
            rw [hw'']; exact below_regrown _ dq osq
          have R5 := Lib.hid (And.intro (R3.out.1.below hbW2) (And.intro (R3.out.2.1.trans (But.of_below hbW2)) R3.out.2.2))
          clear hw' hbW2 R3 r2 ez1 ez2 c2 KL
          have R6 : Hid (Rw enc T tl W2 B D ∧ But B w W2 ∧ D.size = n) := by rw [E2]; exact R5.out
          clear E2 R5
          go_wp2
          first | go_end0 | ((try simp only [Exit.inBlock, Exit.then]); refine bodyPost_ret (results_none rfl _ _ _) rfl ?_)
          exact ⟨rfl, R6.out.1, R6.out.2.1, R6.out.2.2⟩
      | false =>
        have E2 := E.out
        rw [sift_left (by omega) (fun h => by rw [c1] at h; cases h.2)] at E2
        obtain ⟨x1, hx1⟩ := enc_ex d2[first + (2 * r + 1)]!
        obtain ⟨x2, hx2⟩ := enc_ex d2[first + (2 * r + 1) + 1]!
        have fx1 : wr.cell? ⟨B, first + (2 * r + 1), none⟩ = some (.int .u8 x1) := by rw [← hx1]; exact R.out.1.cell (first + (2 * r + 1)) (by omega)
        have fx2 : wr.cell? ⟨B, first + (2 * r + 1) + 1, none⟩ = some (.int .u8 x2) := by rw [← hx2]; exact R.out.1.cell (first + (2 * r + 1) + 1) (by omega)
        have ex1 := fun d os => cell_regrown fx1 d os
        have ex2 := fun d os => cell_regrown fx2 d os
        have r1K := Lib.hid (fun w => KL.out d2[first + (2 * r + 1)]! d2[first + (2 * r + 1) + 1]! w)
        rw [hx1, hx2, c1] at r1K
        have r1 := fun d' os => Calls.regrown_of (w := wr) (d := d') (os := os) ((r1K.out _).mono fun _ _ h => ⟨h.1, by rw [h.2]; exact Below.refl _ _⟩)
        clear hx1 hx2 fx1 fx2 r1K
        go_wp2
        refine wp_region_quiet_below (by kernel_rfl) (by kernel_rfl) ?_
        repeat (go_big_quiet_step (with_reducible exact r1 _ _))
        refine wpQuiet_nil ?_
        intro W1 hw'
        have hbW1 : Below wr.heap.size wr W1 := by
          obtain ⟨⟨dq, osq⟩, hw''⟩ := hw'
          rw [hw'']; exact below_regrown _ dq osq
        have R3 := Lib.hid (And.intro (R.out.1.below hbW1) (And.intro (R.out.2.1.trans (But.of_below hbW1)) R.out.2.2))
        clear hw' hbW1 R r1 ex1 ex2 c1 E
        have hcn : 2 * r + 1 < n := by omega
        cases c2 : lt d2[first + r]! d2[first + (2 * r + 1)]! with
        | true =>
          rw [if_pos c2] at E2
          have HST := Lib.hid E2
          clear E2
          obtain ⟨z1, hz1⟩ := enc_ex d2[first + r]!
          obtain ⟨z2, hz2⟩ := enc_ex d2[first + (2 * r + 1)]!
          have fz1 : W1.cell? ⟨B, first + r, none⟩ = some (.int .u8 z1) := by rw [← hz1]; exact R3.out.1.cell (first + r) (by omega)
          have fz2 : W1.cell? ⟨B, first + (2 * r + 1), none⟩ = some (.int .u8 z2) := by rw [← hz2]; exact R3.out.1.cell (first + (2 * r + 1)) (by omega)
          have ez1 := fun d os => cell_regrown fz1 d os
          have ez2 := fun d os => cell_regrown fz2 d os
          have r2K := Lib.hid (fun w => KL.out d2[first + r]! d2[first + (2 * r + 1)]! w)
          rw [hz1, hz2, c2] at r2K
          have r2 := fun d' os => Calls.regrown_of (w := W1) (d := d') (os := os) ((r2K.out _).mono fun _ _ h => ⟨h.1, by rw [h.2]; exact Below.refl _ _⟩)
          clear hz1 hz2 fz1 fz2 r2K
          go_wp2
          refine wp_region_quiet_below (by kernel_rfl) (by kernel_rfl) ?_
          repeat (go_big_quiet_step (with_reducible exact r2 _ _))
          refine wpQuiet_nil ?_
          intro W2 hw'
          have hbW2 : Below W1.heap.size W1 W2 := by
            obtain ⟨⟨dq, osq⟩, hw''⟩ := hw'
            rw [hw'']; exact below_regrown _ dq osq
          have R5 := Lib.hid (And.intro (R3.out.1.below hbW2) (And.intro (R3.out.2.1.trans (But.of_below hbW2)) R3.out.2.2))
          clear hw' hbW2 R3 r2 ez1 ez2 c2 KL
          obtain ⟨y1, hy1⟩ := enc_ex d2[first + r]!
          obtain ⟨y2, hy2⟩ := enc_ex d2[first + (2 * r + 1)]!
          have f1 : W2.cell? ⟨B, first + r, none⟩ = some (.int .u8 y1) := by rw [← hy1]; exact R5.out.1.cell (first + r) (by omega)
          have f2 : W2.cell? ⟨B, first + (2 * r + 1), none⟩ = some (.int .u8 y2) := by rw [← hy2]; exact R5.out.1.cell (first + (2 * r + 1)) (by omega)
          have g1 := R5.out.1.frozen (first + r)
          have g2 := R5.out.1.frozen (first + (2 * r + 1))
          obtain ⟨v3, u3⟩ := R5.out.1.third (first + r) (first + (2 * r + 1)) (by omega) (by omega) d2[first + (2 * r + 1)]!
          have S := Lib.hid (R5.out.1.swapped (first + r) (first + (2 * r + 1)) (by omega) (by omega))
          rw [hy2] at u3
          rw [hy1, hy2] at S
          clear hy1 hy2
          go_wp2_with fail
          go_region
          have R6 := Lib.hid (show Rw enc T tl _ B (Sort.swp d2 (first + r) (first + (2 * r + 1))) ∧ But B w _ ∧ (Sort.swp d2 (first + r) (first + (2 * r + 1))).size = n from ⟨S.out.1, R5.out.2.1.trans S.out.2, by rw [Sort.size_swp]; exact R5.out.2.2⟩)
          clear f1 f2 g1 g2 u3 S R5 
          go_wp2
          go_roundw
          case rel => exact ⟨2 * r + 1, _, by omega, by go_num, HST, R6⟩
          case measure => simp [intOf]; omega
        | false =>
          rw [if_neg (by rw [c2]; decide)] at E2
          obtain ⟨z1, hz1⟩ := enc_ex d2[first + r]!
          obtain ⟨z2, hz2⟩ := enc_ex d2[first + (2 * r + 1)]!
          have fz1 : W1.cell? ⟨B, first + r, none⟩ = some (.int .u8 z1) := by rw [← hz1]; exact R3.out.1.cell (first + r) (by omega)
          have fz2 : W1.cell? ⟨B, first + (2 * r + 1), none⟩ = some (.int .u8 z2) := by rw [← hz2]; exact R3.out.1.cell (first + (2 * r + 1)) (by omega)
          have ez1 := fun d os => cell_regrown fz1 d os
          have ez2 := fun d os => cell_regrown fz2 d os
          have r2K := Lib.hid (fun w => KL.out d2[first + r]! d2[first + (2 * r + 1)]! w)
          rw [hz1, hz2, c2] at r2K
          have r2 := fun d' os => Calls.regrown_of (w := W1) (d := d') (os := os) ((r2K.out _).mono fun _ _ h => ⟨h.1, by rw [h.2]; exact Below.refl _ _⟩)
          clear hz1 hz2 fz1 fz2 r2K
          go_wp2
          refine wp_region_quiet_below (by kernel_rfl) (by kernel_rfl) ?_
          repeat (go_big_quiet_step (with_reducible exact r2 _ _))
          refine wpQuiet_nil ?_
          intro W2 hw'
          have hbW2 : Below W1.heap.size W1 W2 := by
            obtain ⟨⟨dq, osq⟩, hw''⟩ := hw'
            rw [hw'']; exact below_regrown _ dq osq
          have R5 := Lib.hid (And.intro (R3.out.1.below hbW2) (And.intro (R3.out.2.1.trans (But.of_below hbW2)) R3.out.2.2))
          clear hw' hbW2 R3 r2 ez1 ez2 c2 KL
          have R6 : Hid (Rw enc T tl W2 B D ∧ But B w W2 ∧ D.size = n) := by rw [E2]; exact R5.out
          clear E2 R5
          go_wp2
          first | go_end0 | ((try simp only [Exit.inBlock, Exit.then]); refine bodyPost_ret (results_none rfl _ _ _) rfl ?_)
          exact ⟨rfl, R6.out.1, R6.out.2.1, R6.out.2.2⟩
    · have hd2 : decide (2 * (r : Int) + 1 + 1 < (hi : Int)) = false := decide_eq_false (by omega)
      have E2 := E.out
      rw [sift_left (by omega) (fun h => h2 h.1)] at E2
      go_wp2
      refine wp_region_quiet_below (by kernel_rfl) (by kernel_rfl) ?_
      repeat (go_big_quiet_step (fail))
      refine wpQuiet_nil ?_
      intro W1 hw'
      have hbW1 : Below wr.heap.size wr W1 := by
        obtain ⟨⟨dq, osq⟩, hw''⟩ := hw'
        rw [hw'']; exact below_regrown _ dq osq
      have R3 := Lib.hid (And.intro (R.out.1.below hbW1) (And.intro (R.out.2.1.trans (But.of_below hbW1)) R.out.2.2))
      clear hw' hbW1 R E
      have hcn : 2 * r + 1 < n := by omega
      cases c2 : lt d2[first + r]! d2[first + (2 * r + 1)]! with
      | true =>
        rw [if_pos c2] at E2
        have HST := Lib.hid E2
        clear E2
        obtain ⟨z1, hz1⟩ := enc_ex d2[first + r]!
        obtain ⟨z2, hz2⟩ := enc_ex d2[first + (2 * r + 1)]!
        have fz1 : W1.cell? ⟨B, first + r, none⟩ = some (.int .u8 z1) := by rw [← hz1]; exact R3.out.1.cell (first + r) (by omega)
        have fz2 : W1.cell? ⟨B, first + (2 * r + 1), none⟩ = some (.int .u8 z2) := by rw [← hz2]; exact R3.out.1.cell (first + (2 * r + 1)) (by omega)
        have ez1 := fun d os => cell_regrown fz1 d os
        have ez2 := fun d os => cell_regrown fz2 d os
        have r2K := Lib.hid (fun w => KL.out d2[first + r]! d2[first + (2 * r + 1)]! w)
        rw [hz1, hz2, c2] at r2K
        have r2 := fun d' os => Calls.regrown_of (w := W1) (d := d') (os := os) ((r2K.out _).mono fun _ _ h => ⟨h.1, by rw [h.2]; exact Below.refl _ _⟩)
        clear hz1 hz2 fz1 fz2 r2K
        go_wp2
        refine wp_region_quiet_below (by kernel_rfl) (by kernel_rfl) ?_
        repeat (go_big_quiet_step (with_reducible exact r2 _ _))
        refine wpQuiet_nil ?_
        intro W2 hw'
        have hbW2 : Below W1.heap.size W1 W2 := by
          obtain ⟨⟨dq, osq⟩, hw''⟩ := hw'
          rw [hw'']; exact below_regrown _ dq osq
        have R5 := Lib.hid (And.intro (R3.out.1.below hbW2) (And.intro (R3.out.2.1.trans (But.of_below hbW2)) R3.out.2.2))
        clear hw' hbW2 R3 r2 ez1 ez2 c2 KL
        obtain ⟨y1, hy1⟩ := enc_ex d2[first + r]!
        obtain ⟨y2, hy2⟩ := enc_ex d2[first + (2 * r + 1)]!
        have f1 : W2.cell? ⟨B, first + r, none⟩ = some (.int .u8 y1) := by rw [← hy1]; exact R5.out.1.cell (first + r) (by omega)
        have f2 : W2.cell? ⟨B, first + (2 * r + 1), none⟩ = some (.int .u8 y2) := by rw [← hy2]; exact R5.out.1.cell (first + (2 * r + 1)) (by omega)
        have g1 := R5.out.1.frozen (first + r)
        have g2 := R5.out.1.frozen (first + (2 * r + 1))
        obtain ⟨v3, u3⟩ := R5.out.1.third (first + r) (first + (2 * r + 1)) (by omega) (by omega) d2[first + (2 * r + 1)]!
        have S := Lib.hid (R5.out.1.swapped (first + r) (first + (2 * r + 1)) (by omega) (by omega))
        rw [hy2] at u3
        rw [hy1, hy2] at S
        clear hy1 hy2
        go_wp2_with fail
        go_region
        have R6 := Lib.hid (show Rw enc T tl _ B (Sort.swp d2 (first + r) (first + (2 * r + 1))) ∧ But B w _ ∧ (Sort.swp d2 (first + r) (first + (2 * r + 1))).size = n from ⟨S.out.1, R5.out.2.1.trans S.out.2, by rw [Sort.size_swp]; exact R5.out.2.2⟩)
        clear f1 f2 g1 g2 u3 S R5 
        go_wp2
        go_roundw
        case rel => exact ⟨2 * r + 1, _, by omega, by go_num, HST, R6⟩
        case measure => simp [intOf]; omega
      | false =>
        rw [if_neg (by rw [c2]; decide)] at E2
        obtain ⟨z1, hz1⟩ := enc_ex d2[first + r]!
        obtain ⟨z2, hz2⟩ := enc_ex d2[first + (2 * r + 1)]!
        have fz1 : W1.cell? ⟨B, first + r, none⟩ = some (.int .u8 z1) := by rw [← hz1]; exact R3.out.1.cell (first + r) (by omega)
        have fz2 : W1.cell? ⟨B, first + (2 * r + 1), none⟩ = some (.int .u8 z2) := by rw [← hz2]; exact R3.out.1.cell (first + (2 * r + 1)) (by omega)
        have ez1 := fun d os => cell_regrown fz1 d os
        have ez2 := fun d os => cell_regrown fz2 d os
        have r2K := Lib.hid (fun w => KL.out d2[first + r]! d2[first + (2 * r + 1)]! w)
        rw [hz1, hz2, c2] at r2K
        have r2 := fun d' os => Calls.regrown_of (w := W1) (d := d') (os := os) ((r2K.out _).mono fun _ _ h => ⟨h.1, by rw [h.2]; exact Below.refl _ _⟩)
        clear hz1 hz2 fz1 fz2 r2K
        go_wp2
        refine wp_region_quiet_below (by kernel_rfl) (by kernel_rfl) ?_
        repeat (go_big_quiet_step (with_reducible exact r2 _ _))
        refine wpQuiet_nil ?_
        intro W2 hw'
        have hbW2 : Below W1.heap.size W1 W2 := by
          obtain ⟨⟨dq, osq⟩, hw''⟩ := hw'
          rw [hw'']; exact below_regrown _ dq osq
        have R5 := Lib.hid (And.intro (R3.out.1.below hbW2) (And.intro (R3.out.2.1.trans (But.of_below hbW2)) R3.out.2.2))
        clear hw' hbW2 R3 r2 ez1 ez2 c2 KL
        have R6 : Hid (Rw enc T tl W2 B D ∧ But B w W2 ∧ D.size = n) := by rw [E2]; exact R5.out
        clear E2 R5
        go_wp2
        first | go_end0 | ((try simp only [Exit.inBlock, Exit.then]); refine bodyPost_ret (results_none rfl _ _ _) rfl ?_)
        exact ⟨rfl, R6.out.1, R6.out.2.1, R6.out.2.2⟩
end Go.Proofs.YtjjcoblbiagflaaGreat.ku
