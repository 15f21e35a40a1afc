/- The document's own answer for a product divided (chronobateref01.MulDiv, wide, div), each by its number, and what it returns. -/
import Derived.Test.YteblhgcbgkokeaaMul
namespace Go.Proofs.Yteblhgcbgkokeaa
open Go.RowKit

/-- The division bit by bit, k bits before its end: N is what is divided by c. -/
structure DS (N c : Int) (k : Nat) (low q rest : Int) : Prop where
  sum : ∃ m : Int, (q * c + rest) * 2 ^ k + m = N ∧ low * 2 ^ k = m * 18446744073709551616
  room : (q + 1) * 2 ^ k ≤ 18446744073709551616

theorem pow_pos2 (k : Nat) : (1 : Int) ≤ 2 ^ k := by
  have := Nat.two_pow_pos k
  have e : ((2 ^ k : Nat) : Int) = (2 : Int) ^ k := by rw [Int.natCast_pow]; rfl
  omega
theorem DS.half {N c low q rest : Int} {k : Nat} (h : DS N c (k + 1) low q rest) (hq : 0 ≤ q) : q ≤ 9223372036854775807 := by
  have r := h.room
  rw [Int.pow_succ] at r
  have p := pow_pos2 k
  have : (q + 1) * 2 ≤ (q + 1) * (2 ^ k * 2) := Int.mul_le_mul_of_nonneg_left (by omega) (by omega)
  omega
theorem DS.step {N c low q rest t low' q' rest' : Int} {k : Nat} (h : DS N c (k + 1) low q rest) (_hq : 0 ≤ q)
    (el : low' = 2 * low - t * 18446744073709551616) (eq : q' * c + rest' = 2 * (q * c + rest) + t) (bq : q' ≤ 2 * q + 1) : DS N c k low' q' rest' := by
  obtain ⟨m, h1, h2⟩ := h.sum
  have r := h.room
  rw [Int.pow_succ] at r h1 h2
  have p := pow_pos2 k
  refine ⟨⟨m - t * 2 ^ k, ?_, ?_⟩, ?_⟩
  · generalize (2 : Int) ^ k = P at *
    rw [eq]; grind
  · generalize (2 : Int) ^ k = P at *
    rw [el]; grind
  · generalize (2 : Int) ^ k = P at *
    have : (q' + 1) * P ≤ (2 * (q + 1)) * P := Int.mul_le_mul_of_nonneg_right (by omega) (by omega)
    have e : (2 * (q + 1)) * P = (q + 1) * (P * 2) := by grind
    omega
theorem DS.done {N c low q rest : Int} (h : DS N c 0 low q rest) (h0 : 0 ≤ low) (h1 : low < 18446744073709551616) (r0 : 0 ≤ rest) (r1 : rest < c) : N / c = q ∧ N % c = rest := by
  obtain ⟨m, e1, e2⟩ := h.sum
  have hm : m = 0 := by rw [Int.pow_zero] at e2; omega
  subst hm
  rw [Int.pow_zero, Int.mul_one, Int.add_zero] at e1
  rw [← e1, Int.add_comm, Int.add_mul_ediv_right _ _ (by omega), Int.ediv_eq_zero_of_lt r0 r1, Int.add_mul_emod_self_right, Int.emod_eq_of_lt r0 r1]
  exact ⟨by omega, rfl⟩
theorem DS.start (high low c : Int) : DS (high * 18446744073709551616 + low) c 64 low 0 high := by
  refine ⟨⟨low, ?_, ?_⟩, ?_⟩
  · rw [Int.zero_mul, Int.zero_add]; rfl
  · rfl
  · decide

theorem wide_int (x y hi lo : Int) (w : World) (hx0 : 0 ≤ x) (hx : x < 18446744073709551616) (hy0 : 0 ≤ y) (hy : y < 18446744073709551616)
    (e1 : x * y / 18446744073709551616 = hi) (e2 : x * y % 18446744073709551616 = lo) :
    Calls Try.prog 34 #[.int .u64 x, .int .u64 y] w fun e w' => e = .returned (.tuple #[.int .u64 hi, .int .u64 lo]) ∧ w = w' := by
  obtain ⟨x1, ex1⟩ : ∃ x1, x / 4294967296 = x1 := ⟨_, rfl⟩
  obtain ⟨x0, ex0⟩ : ∃ x0, x % 4294967296 = x0 := ⟨_, rfl⟩
  obtain ⟨y1, ey1⟩ : ∃ y1, y / 4294967296 = y1 := ⟨_, rfl⟩
  obtain ⟨y0, ey0⟩ : ∃ y0, y % 4294967296 = y0 := ⟨_, rfl⟩
  have a1 : 0 ≤ x1 ∧ x1 ≤ 4294967295 := by omega
  have a0 : 0 ≤ x0 ∧ x0 ≤ 4294967295 := by omega
  have c1 : 0 ≤ y1 ∧ y1 ≤ 4294967295 := by omega
  have c0 : 0 ≤ y0 ∧ y0 ≤ 4294967295 := by omega
  have bnd : ∀ u v : Int, (0 ≤ u ∧ u ≤ 4294967295) → (0 ≤ v ∧ v ≤ 4294967295) → 0 ≤ u * v ∧ u * v ≤ 18446744065119617025 := fun u v hu hv =>
    ⟨Int.mul_nonneg hu.1 hv.1, Int.le_trans (Int.mul_le_mul hu.2 hv.2 hv.1 (by omega)) (by omega)⟩
  have b11 := bnd _ _ a1 c1
  have b10 := bnd _ _ a1 c0
  have b01 := bnd _ _ a0 c1
  have b00 := bnd _ _ a0 c0
  have hp : x * y = x1 * y1 * 18446744073709551616 + (x1 * y0 + x0 * y1) * 4294967296 + x0 * y0 := by
    have f1 : x = x1 * 4294967296 + x0 := by omega
    have f2 : y = y1 * 4294967296 + y0 := by omega
    rw [f1, f2]; grind
  rw [hp] at e1 e2
  obtain ⟨A, eA⟩ : ∃ A, x1 * y1 = A := ⟨_, rfl⟩
  obtain ⟨B, eB⟩ : ∃ B, x1 * y0 = B := ⟨_, rfl⟩
  obtain ⟨C, eC⟩ : ∃ C, x0 * y1 = C := ⟨_, rfl⟩
  obtain ⟨D, eD⟩ : ∃ D, x0 * y0 = D := ⟨_, rfl⟩
  rw [eA, eB, eC, eD] at e1 e2
  rw [eA] at b11
  rw [eB] at b10
  rw [eC] at b01
  rw [eD] at b00
  obtain ⟨A0, A1⟩ := b11
  obtain ⟨B0, B1⟩ := b10
  obtain ⟨C0, C1⟩ := b01
  obtain ⟨D0, D1⟩ := b00
  have E1 : A + (B + D / 4294967296) / 4294967296 + (C + (B + D / 4294967296) % 4294967296) / 4294967296 = hi := by omega
  have E2 : (C + (B + D / 4294967296)) % 4294967296 * 4294967296 + D % 4294967296 = lo := by omega
  have hh : hi < 18446744073709551616 := by
    have := Int.mul_le_mul (show x ≤ 18446744073709551615 by omega) (show y ≤ 18446744073709551615 by omega) hy0 (by omega)
    rw [hp, eA, eB, eC, eD] at this
    omega
  have F1 := Lib.hid E1
  have F2 := Lib.hid E2
  have hs1 : A + (B + D / 4294967296) / 4294967296 ≤ 18446744073709551615 := by omega
  have hs2 : A + (B + D / 4294967296) / 4294967296 + (C + (B + D / 4294967296) % 4294967296) / 4294967296 ≤ 18446744073709551615 := by omega
  clear E1 E2 e1 e2 hp bnd a1 a0 c1 c0 hh
  go_enter Try.func34, Try.ntmps34
  go_wp2
  go_ret2
  refine ⟨?_, rfl⟩
  rw [← F1.out, ← F2.out]
  rfl

theorem rdiv_no (high low c : Int) (w : World) (h : c ≤ high) :
    Calls Try.prog 35 #[.int .u64 high, .int .u64 low, .int .u64 c] w fun e w' => e = .returned (.tuple #[.int .u64 0, .int .u64 0, .bool false]) ∧ w = w' := by
  go_enter Try.func35, Try.ntmps35
  go_wp2
  go_ret3
  exact ⟨rfl, rfl⟩

set_option maxHeartbeats 1000000 in
theorem rdiv_yes (high low c q r : Int) (w : World) (h0 : 0 ≤ high) (h1 : high < c) (h2 : c ≤ 9223372036854775808) (h3 : 0 ≤ low) (h4 : low < 18446744073709551616)
    (e1 : (high * 18446744073709551616 + low) / c = q) (e2 : (high * 18446744073709551616 + low) % c = r) :
    Calls Try.prog 35 #[.int .u64 high, .int .u64 low, .int .u64 c] w fun e w' => e = .returned (.tuple #[.int .u64 q, .int .u64 r, .bool true]) ∧ w = w' := by
  have hst := DS.start high low c
  obtain ⟨N, eN⟩ : ∃ N, high * 18446744073709551616 + low = N := ⟨_, rfl⟩
  rw [eN] at hst e1 e2
  have E1 := Lib.hid e1
  have E2 := Lib.hid e2
  clear e1 e2 eN
  go_enter Try.func35, Try.ntmps35
  go_wp2_with fail
  go_loop [1, 9, 10, 11] (fun a b d f => ∃ l s p i : Int, a = .int .u64 l ∧ b = .int .u64 s ∧ d = .int .u64 p ∧ f = .int .i64 i ∧ 0 ≤ i ∧ i ≤ 64 ∧ 0 ≤ l ∧ l < 18446744073709551616 ∧ 0 ≤ s ∧ s < c ∧ 0 ≤ p ∧ DS N c (64 - i).toNat l p s) (fun _ _ _ f => (64 - intOf f).toNat)
  case atStart => exact ⟨low, high, 0, 0, rfl, rfl, rfl, rfl, by omega, by omega, h3, h4, h0, h1, by omega, hst⟩
  case round =>
    clear hst h0 h1 h3 h4
    obtain ⟨l, s, p, i, rfl, rfl, rfl, rfl, i0, i1, l0, l1, s0, s1, p0, hD⟩ := hrel
    by_cases hi : i < 64
    · obtain ⟨k, hk⟩ : ∃ k : Nat, (64 - i).toNat = k + 1 := ⟨(63 - i).toNat, by omega⟩
      rw [hk] at hD
      have hp := hD.half p0
      have ht : 0 ≤ l / 9223372036854775808 ∧ l / 9223372036854775808 ≤ 1 := by omega
      have HK := Lib.hid hk
      clear hk
      have hk2 : (64 - (i + 1)).toNat = k := by have := HK.out; omega
      have HK2 := Lib.hid hk2
      clear hk2
      go_wp2
      · refine ⟨⟨_, _, _, _, rfl, rfl, rfl, rfl, by omega, by omega, ?_, ?_, by omega, by omega, by omega, ?_⟩, by simp [intOf]; omega⟩
        · rw [IntKind.wrap_u64]; omega
        · rw [IntKind.wrap_u64]; omega
        · rw [HK2.out]
          refine hD.step (t := l / 9223372036854775808) p0 (by rw [IntKind.wrap_u64]; omega) ?_ (by omega)
          rw [Int.add_mul, Int.mul_assoc, Int.one_mul]; omega
      · refine ⟨⟨_, _, _, _, rfl, rfl, rfl, rfl, by omega, by omega, ?_, ?_, by omega, by omega, by omega, ?_⟩, by simp [intOf]; omega⟩
        · rw [IntKind.wrap_u64]; omega
        · rw [IntKind.wrap_u64]; omega
        · rw [HK2.out]
          refine hD.step (t := l / 9223372036854775808) p0 (by rw [IntKind.wrap_u64]; omega) ?_ (by omega)
          rw [Int.mul_assoc]; omega
    · have hi6 : i = 64 := by omega
      have hD0 := hD
      rw [hi6] at hD0
      obtain ⟨g1, g2⟩ := hD0.done l0 l1 s0 s1
      have G1 := Lib.hid (g1.symm.trans E1.out)
      have G2 := Lib.hid (g2.symm.trans E2.out)
      clear g1 g2 hD0 hi6
      go_wp2
      go_ret3
      refine ⟨?_, rfl⟩
      rw [← G1.out, ← G2.out]
      rfl

theorem rmuldiv_err (a b c : Int) (w : World) (h : b < 0 ∨ c < 1) :
    Calls Try.prog 28 #[.int .i64 a, .int .i64 b, .int .i64 c] w fun e w' => e = .returned (.tuple #[.int .i64 0, .int .i64 2]) ∧ w = w' := by
  by_cases hb : b < 0
  · go_enter Try.func28, Try.ntmps28
    go_wp2
    go_ret2
    exact ⟨rfl, rfl⟩
  · have hc : c < 1 := by omega
    go_enter Try.func28, Try.ntmps28
    go_wp2
    go_ret2
    exact ⟨rfl, rfl⟩

theorem ret_two {a b x y : Int} (h : a = x) (g : b = y) : Ending.returned (.tuple #[.int .i64 a, .int .i64 b]) = .returned (.tuple #[.int .i64 x, .int .i64 y]) := by rw [h, g]

set_option maxHeartbeats 1000000 in
theorem rmuldiv_pos (a b c : Int) (w : World) (h1 : 0 ≤ a) (h2 : a ≤ 9223372036854775807) (h3 : 0 ≤ b) (h4 : b ≤ 9223372036854775807) (h5 : 1 ≤ c) (h6 : c ≤ 9223372036854775807) :
    Calls Try.prog 28 #[.int .i64 a, .int .i64 b, .int .i64 c] w fun e w' => e = .returned (.tuple #[.int .i64 (stp (a * b / c)), .int .i64 0]) ∧ w = w' := by
  obtain ⟨p, hp⟩ : ∃ p, a * b = p := ⟨_, rfl⟩
  have hp0 : 0 ≤ p := by rw [← hp]; exact Int.mul_nonneg h1 h3
  obtain ⟨t1, t2, t3, t4, t5⟩ := two_words p c hp0 (by omega)
  obtain ⟨hi, ehi⟩ : ∃ hi, p / 18446744073709551616 = hi := ⟨_, rfl⟩
  obtain ⟨lo, elo⟩ : ∃ lo, p % 18446744073709551616 = lo := ⟨_, rfl⟩
  have HM := Lib.hid fun w => wide_int a b hi lo w h1 (by omega) h3 (by omega) (by rw [hp]; exact ehi) (by rw [hp]; exact elo)
  rw [ehi, elo] at t4
  rw [ehi] at t1 t5
  rw [elo] at t2 t3
  rw [hp]
  obtain ⟨q, e1⟩ : ∃ q, p / c = q := ⟨_, rfl⟩
  obtain ⟨r, e2⟩ : ∃ r, p % c = r := ⟨_, rfl⟩
  have hq0 : 0 ≤ q := by rw [← e1]; exact Int.ediv_nonneg hp0 (by omega)
  rw [e1] at t5 ⊢
  by_cases hlt : hi < c
  · have HD := Lib.hid fun w => rdiv_yes hi lo c q r w t1 hlt (by omega) t2 t3 (by rw [t4]; exact e1) (by rw [t4]; exact e2)
    clear e1 e2 t4 t5 ehi elo hp
    by_cases hq : 9223372036854775807 < q
    · rw [stp_hi (by omega)]
      go_enter Try.func28, Try.ntmps28
      go_wp2_with fail
      refine (HM.out _).mono ?_
      rintro e w1 ⟨rfl, rfl⟩
      go_wp2_with fail
      refine (HD.out _).mono ?_
      rintro e w1 ⟨rfl, rfl⟩
      go_wp2
      go_ret2
      exact ⟨rfl, rfl⟩
    · rw [stp_in (by omega) (by omega)]
      go_enter Try.func28, Try.ntmps28
      go_wp2_with fail
      refine (HM.out _).mono ?_
      rintro e w1 ⟨rfl, rfl⟩
      go_wp2_with fail
      refine (HD.out _).mono ?_
      rintro e w1 ⟨rfl, rfl⟩
      go_wp2
      go_ret2
      exact ⟨rfl, rfl⟩
  · have := t5 (by omega)
    rw [stp_hi (by omega)]
    have HD := Lib.hid fun w => rdiv_no hi lo c w (by omega)
    clear e1 e2 t4 t5 ehi elo hp this
    go_enter Try.func28, Try.ntmps28
    go_wp2_with fail
    refine (HM.out _).mono ?_
    rintro e w1 ⟨rfl, rfl⟩
    go_wp2_with fail
    refine (HD.out _).mono ?_
    rintro e w1 ⟨rfl, rfl⟩
    go_wp2
    go_ret2
    exact ⟨rfl, rfl⟩

set_option maxHeartbeats 1000000 in
theorem rmuldiv_neg (a b c : Int) (w : World) (h1 : a < 0) (h2 : -9223372036854775808 ≤ a) (h3 : 0 ≤ b) (h4 : b ≤ 9223372036854775807) (h5 : 1 ≤ c) (h6 : c ≤ 9223372036854775807) :
    Calls Try.prog 28 #[.int .i64 a, .int .i64 b, .int .i64 c] w fun e w' => e = .returned (.tuple #[.int .i64 (stp (a * b / c)), .int .i64 0]) ∧ w = w' := by
  obtain ⟨n, hn⟩ : ∃ n, -(a + 1) + 1 = n := ⟨_, rfl⟩
  have ha : a = -n := by omega
  have hv : a * b / c = if n * b % c = 0 then -(n * b / c) else -(n * b / c) - 1 := by rw [ha, Int.neg_mul, floor_neg _ _ (by omega)]
  rw [hv]
  obtain ⟨p, hp⟩ : ∃ p, n * b = p := ⟨_, rfl⟩
  have hp0 : 0 ≤ p := by rw [← hp]; exact Int.mul_nonneg (by omega) h3
  obtain ⟨t1, t2, t3, t4, t5⟩ := two_words p c hp0 (by omega)
  obtain ⟨hi, ehi⟩ : ∃ hi, p / 18446744073709551616 = hi := ⟨_, rfl⟩
  obtain ⟨lo, elo⟩ : ∃ lo, p % 18446744073709551616 = lo := ⟨_, rfl⟩
  have HM := Lib.hid fun w => wide_int n b hi lo w (by omega) (by omega) h3 (by omega) (by rw [hp]; exact ehi) (by rw [hp]; exact elo)
  rw [ehi, elo] at t4
  rw [ehi] at t1 t5
  rw [elo] at t2 t3
  rw [hp]
  obtain ⟨q, e1⟩ : ∃ q, p / c = q := ⟨_, rfl⟩
  obtain ⟨r, e2⟩ : ∃ r, p % c = r := ⟨_, rfl⟩
  have hq0 : 0 ≤ q := by rw [← e1]; exact Int.ediv_nonneg hp0 (by omega)
  have hr0 : 0 ≤ r := by rw [← e2]; exact Int.emod_nonneg _ (by omega)
  rw [e1] at t5
  rw [e1, e2]
  clear hv ha
  by_cases hlt : hi < c
  · have HD := Lib.hid fun w => rdiv_yes hi lo c q r w t1 hlt (by omega) t2 t3 (by rw [t4]; exact e1) (by rw [t4]; exact e2)
    have hq1 : q < 18446744073709551616 := by
      rw [← e1]
      refine (Int.ediv_lt_iff_lt_mul (by omega)).2 ?_
      omega
    clear e1 e2 t4 t5 ehi elo hp
    by_cases hr : r = 0
    · subst hr
      rw [if_pos rfl]
      rcases (show 9223372036854775808 < q ∨ q = 9223372036854775808 ∨ q < 9223372036854775808 by omega) with hq | hq | hq
      · rw [stp_lo (by omega)]
        go_enter Try.func28, Try.ntmps28
        go_wp2_with fail
        refine (HM.out _).mono ?_
        rintro e w1 ⟨rfl, rfl⟩
        go_wp2_with fail
        refine (HD.out _).mono ?_
        rintro e w1 ⟨rfl, rfl⟩
        go_wp2
        go_ret2
        exact ⟨rfl, rfl⟩
      · rw [stp_lo (by omega)]
        have hq2 : (q == 9223372036854775808) = true := by simp only [beq_iff_eq]; exact hq
        have hq3 : ¬ 9223372036854775808 < q := by omega
        clear hq
        go_enter Try.func28, Try.ntmps28
        go_wp2_with fail
        refine (HM.out _).mono ?_
        rintro e w1 ⟨rfl, rfl⟩
        go_wp2_with fail
        refine (HD.out _).mono ?_
        rintro e w1 ⟨rfl, rfl⟩
        go_wp2
        go_ret2
        exact ⟨rfl, rfl⟩
      · rw [stp_in (by omega) (by omega)]
        have hq2 : (q == 9223372036854775808) = false := by simp only [beq_eq_false_iff_ne]; omega
        go_enter Try.func28, Try.ntmps28
        go_wp2_with fail
        refine (HM.out _).mono ?_
        rintro e w1 ⟨rfl, rfl⟩
        go_wp2_with fail
        refine (HD.out _).mono ?_
        rintro e w1 ⟨rfl, rfl⟩
        go_wp2
        go_ret2
        exact ⟨rfl, rfl⟩
    · rw [if_neg hr]
      have hr1 : 0 < r := by omega
      rcases (show q = 18446744073709551615 ∨ (9223372036854775807 < q ∧ q < 18446744073709551615) ∨ q = 9223372036854775807 ∨ q < 9223372036854775807 by omega) with hq | ⟨hq, hq'⟩ | hq | hq
      · rw [stp_lo (by omega)]
        have hw : IntKind.u64.wrap (q + 1) = 0 := by rw [hq, IntKind.wrap_u64]; rfl
        have hq2 : (0 : Int) < q := by omega
        clear hq hr
        go_enter Try.func28, Try.ntmps28
        go_wp2_with fail
        refine (HM.out _).mono ?_
        rintro e w1 ⟨rfl, rfl⟩
        go_wp2_with fail
        refine (HD.out _).mono ?_
        rintro e w1 ⟨rfl, rfl⟩
        go_wp2
        go_ret2
        exact ⟨rfl, rfl⟩
      · rw [stp_lo (by omega)]
        have hq2 : (q + 1 == 0) = false := by simp only [beq_eq_false_iff_ne]; omega
        clear hr
        go_enter Try.func28, Try.ntmps28
        go_wp2_with fail
        refine (HM.out _).mono ?_
        rintro e w1 ⟨rfl, rfl⟩
        go_wp2_with fail
        refine (HD.out _).mono ?_
        rintro e w1 ⟨rfl, rfl⟩
        go_wp2
        go_ret2
        exact ⟨rfl, rfl⟩
      · rw [stp_lo (by omega)]
        have hq2 : (q + 1 == 0) = false := by simp only [beq_eq_false_iff_ne]; omega
        have hq3 : (q + 1 == 9223372036854775808) = true := by simp only [beq_iff_eq]; omega
        have hq4 : q ≤ 9223372036854775807 := by omega
        have hq5 : 9223372036854775807 ≤ q := by omega
        clear hq hr
        go_enter Try.func28, Try.ntmps28
        go_wp2_with fail
        refine (HM.out _).mono ?_
        rintro e w1 ⟨rfl, rfl⟩
        go_wp2_with fail
        refine (HD.out _).mono ?_
        rintro e w1 ⟨rfl, rfl⟩
        go_wp2
        go_ret2
        exact ⟨rfl, rfl⟩
      · rw [stp_in (by omega) (by omega)]
        have hq2 : (q + 1 == 0) = false := by simp only [beq_eq_false_iff_ne]; omega
        have hq3 : (q + 1 == 9223372036854775808) = false := by simp only [beq_eq_false_iff_ne]; omega
        clear hr
        go_enter Try.func28, Try.ntmps28
        go_wp2_with fail
        refine (HM.out _).mono ?_
        rintro e w1 ⟨rfl, rfl⟩
        go_wp2_with fail
        refine (HD.out _).mono ?_
        rintro e w1 ⟨rfl, rfl⟩
        go_wp2
        go_ret2
        exact ⟨ret_two (by omega) rfl, rfl⟩
  · have := t5 (by omega)
    rw [show stp (if r = 0 then -q else -q - 1) = -9223372036854775808 from stp_lo (by split <;> omega)]
    have HD := Lib.hid fun w => rdiv_no hi lo c w (by omega)
    clear e1 e2 t4 t5 ehi elo hp this
    go_enter Try.func28, Try.ntmps28
    go_wp2_with fail
    refine (HM.out _).mono ?_
    rintro e w1 ⟨rfl, rfl⟩
    go_wp2_with fail
    refine (HD.out _).mono ?_
    rintro e w1 ⟨rfl, rfl⟩
    go_wp2
    go_ret2
    exact ⟨rfl, rfl⟩

theorem rmuldiv_any (a b c : Int) (w : World) (h1 : -9223372036854775808 ≤ a) (h2 : a ≤ 9223372036854775807) (h3 : 0 ≤ b) (h4 : b ≤ 9223372036854775807) (h5 : 1 ≤ c) (h6 : c ≤ 9223372036854775807) :
    Calls Try.prog 28 #[.int .i64 a, .int .i64 b, .int .i64 c] w fun e w' => e = .returned (.tuple #[.int .i64 (stp (a * b / c)), .int .i64 0]) ∧ w = w' := by
  by_cases h : a < 0
  · exact rmuldiv_neg a b c w h h1 h3 h4 h5 h6
  · exact rmuldiv_pos a b c w (by omega) h2 h3 h4 h5 h6
end Go.Proofs.Yteblhgcbgkokeaa
