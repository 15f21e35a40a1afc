/- sat.MulDiv by its number, and what it returns: the floor of the product divided, or the refusal; and the statements' own examples. -/
import Derived.Test.YtnooneejidpdaaaWalks
import Derived.Test.YtnooneejidpdaaaDiv
namespace Go.Proofs.Ytnooneejidpdaaa
open Go.RowKit

theorem mul_int (x y hi lo : Int) (w : World) (hx0 : 0 ≤ x) (hx : x < 18446744073709551616) (hy0 : 0 ≤ y) (hy : y < 18446744073709551616)
    (e1 : x * y / 18446744073709551616 = hi) (e2 : x * y % 18446744073709551616 = lo) :
    Calls Try.prog 39 #[.int .u64 x, .int .u64 y] w fun e w' => e = .returned (.tuple #[.int .u64 hi, .int .u64 lo]) ∧ w = w' := by
  obtain ⟨x, rfl⟩ := Int.eq_ofNat_of_zero_le hx0
  obtain ⟨y, rfl⟩ := Int.eq_ofNat_of_zero_le hy0
  refine (Try.bits_Mul64 x y (by omega) (by omega) w).mono ?_
  rintro e w' ⟨rfl, rfl⟩
  refine ⟨?_, rfl⟩
  rw [← e1, ← e2, ← Int.natCast_mul]
  generalize x * y = p
  have a1 : ((p / 18446744073709551616 : Nat) : Int) = (p : Int) / 18446744073709551616 := by omega
  have a2 : ((p % 18446744073709551616 : Nat) : Int) = (p : Int) % 18446744073709551616 := by omega
  rw [a1, a2]

theorem div_int (hi lo y q r : Int) (w : World) (h0 : 0 ≤ hi) (h1 : hi < y) (h2 : y < 18446744073709551616) (h30 : 0 ≤ lo) (h3 : lo < 18446744073709551616)
    (e1 : (hi * 18446744073709551616 + lo) / y = q) (e2 : (hi * 18446744073709551616 + lo) % y = r) :
    Calls Try.prog 41 #[.int .u64 hi, .int .u64 lo, .int .u64 y] w fun e w' => e = .returned (.tuple #[.int .u64 q, .int .u64 r]) ∧ Below w.heap.size w w' := by
  obtain ⟨hi, rfl⟩ := Int.eq_ofNat_of_zero_le h0
  obtain ⟨lo, rfl⟩ := Int.eq_ofNat_of_zero_le h30
  obtain ⟨y, rfl⟩ := Int.eq_ofNat_of_zero_le (show 0 ≤ y by omega)
  refine (div_any hi lo y w (by omega) (by omega) (by omega)).mono ?_
  rintro e w' ⟨rfl, hg⟩
  refine ⟨?_, hg⟩
  have a : ((hi : Int) * 18446744073709551616 + (lo : Int)) = ((hi * 18446744073709551616 + lo : Nat) : Int) := by omega
  rw [← e1, ← e2, a, Int.natCast_ediv, Int.natCast_emod]

/-- A product divided, in two words. -/
theorem two_words (p c : Int) (h0 : 0 ≤ p) (hc : 0 < c) :
    0 ≤ p / 18446744073709551616 ∧ 0 ≤ p % 18446744073709551616 ∧ p % 18446744073709551616 < 18446744073709551616 ∧
    p / 18446744073709551616 * 18446744073709551616 + p % 18446744073709551616 = p ∧
    (c ≤ p / 18446744073709551616 → 18446744073709551616 ≤ p / c) := by
  refine ⟨by omega, by omega, by omega, by omega, fun h => ?_⟩
  rw [Int.le_ediv_iff_mul_le hc]
  omega

set_option maxHeartbeats 400000 in
theorem quot_yes (a b c q r : Int) (w : World) (ha0 : 0 ≤ a) (ha : a < 18446744073709551616) (hb0 : 0 ≤ b) (hb : b < 18446744073709551616) (hc0 : 0 < c) (hc : c < 18446744073709551616)
    (e1 : a * b / c = q) (e2 : a * b % c = r) (hq : q ≤ 9223372036854775807) :
    Calls Try.prog 33 #[.int .u64 a, .int .u64 b, .int .u64 c] w fun e w' => e = .returned (.tuple #[.int .u64 q, .int .u64 r, .bool true]) ∧ Below w.heap.size w w' := by
  obtain ⟨p, hp⟩ : ∃ p, a * b = p := ⟨_, rfl⟩
  have hp0 : 0 ≤ p := by rw [← hp]; exact Int.mul_nonneg ha0 hb0
  obtain ⟨t1, t2, t3, t4, t5⟩ := two_words p c hp0 hc0
  obtain ⟨hi, ehi⟩ : ∃ hi, p / 18446744073709551616 = hi := ⟨_, rfl⟩
  obtain ⟨lo, elo⟩ : ∃ lo, p % 18446744073709551616 = lo := ⟨_, rfl⟩
  have HM := fun w => mul_int a b hi lo w ha0 ha hb0 hb (by rw [hp]; exact ehi) (by rw [hp]; exact elo)
  rw [ehi, elo] at t4
  rw [ehi] at t1 t5
  rw [elo] at t2 t3
  rw [hp] at e1 e2
  have hlt : hi < c := by
    refine Int.not_le.1 fun h => ?_
    have := t5 h
    omega
  have HD := fun w => div_int hi lo c q r w t1 hlt hc t2 t3 (by rw [t4]; exact e1) (by rw [t4]; exact e2)
  have hm := Lib.hid HM
  have hd := Lib.hid HD
  have hq0 : 0 ≤ q := by rw [← e1]; exact Int.ediv_nonneg hp0 (by omega)
  clear HM HD e1 e2 t4 t5 ehi elo hp
  go_enter Try.func33, Try.ntmps33
  go_wp2_with fail
  refine (hm.out _).mono ?_
  rintro e w' ⟨rfl, rfl⟩
  go_wp2_with (first | (go_at_call 40; go_in) | fail)
  refine (hd.out _).mono ?_
  rintro e w1 ⟨rfl, hg⟩
  go_wp2
  go_ret3
  exact ⟨rfl, hg⟩

set_option maxHeartbeats 400000 in
theorem quot_no (a b c : Int) (w : World) (ha0 : 0 ≤ a) (ha : a < 18446744073709551616) (hb0 : 0 ≤ b) (hb : b < 18446744073709551616) (hc0 : 0 < c) (hc : c < 18446744073709551616)
    (hq : 9223372036854775807 < a * b / c) :
    Calls Try.prog 33 #[.int .u64 a, .int .u64 b, .int .u64 c] w fun e w' => e = .returned (.tuple #[.int .u64 0, .int .u64 0, .bool false]) ∧ Below w.heap.size w w' := by
  obtain ⟨p, hp⟩ : ∃ p, a * b = p := ⟨_, rfl⟩
  have hp0 : 0 ≤ p := by rw [← hp]; exact Int.mul_nonneg ha0 hb0
  obtain ⟨t1, t2, t3, t4, t5⟩ := two_words p c hp0 hc0
  obtain ⟨hi, ehi⟩ : ∃ hi, p / 18446744073709551616 = hi := ⟨_, rfl⟩
  obtain ⟨lo, elo⟩ : ∃ lo, p % 18446744073709551616 = lo := ⟨_, rfl⟩
  have HM := fun w => mul_int a b hi lo w ha0 ha hb0 hb (by rw [hp]; exact ehi) (by rw [hp]; exact elo)
  rw [ehi, elo] at t4
  rw [ehi] at t1 t5
  rw [elo] at t2 t3
  rw [hp] at hq
  have hm := Lib.hid HM
  by_cases hlt : hi < c
  · obtain ⟨q, e1⟩ : ∃ q, p / c = q := ⟨_, rfl⟩
    obtain ⟨r, e2⟩ : ∃ r, p % c = r := ⟨_, rfl⟩
    rw [e1] at hq
    have HD := fun w => div_int hi lo c q r w t1 hlt hc t2 t3 (by rw [t4]; exact e1) (by rw [t4]; exact e2)
    have hd := Lib.hid HD
    clear HM HD e1 e2 t4 t5 ehi elo hp
    go_enter Try.func33, Try.ntmps33
    go_wp2_with fail
    refine (hm.out _).mono ?_
    rintro e w' ⟨rfl, rfl⟩
    go_wp2_with (first | (go_at_call 40; go_in) | fail)
    refine (hd.out _).mono ?_
    rintro e w1 ⟨rfl, hg⟩
    go_wp2
    go_ret3
    exact ⟨rfl, hg⟩
  · clear HM t4 t5 ehi elo hp hq
    have hbl : decide (hi < c) = false := by simp only [decide_eq_false_iff_not]; exact hlt
    go_enter Try.func33, Try.ntmps33
    go_wp2_with fail
    refine (hm.out _).mono ?_
    rintro e w' ⟨rfl, rfl⟩
    go_wp2
    go_ret3
    exact ⟨rfl, Below.refl _ _⟩

/-- The floor of a number below 0. -/
theorem floor_neg (m c : Int) (hc : 0 < c) : (-m) / c = if m % c = 0 then -(m / c) else -(m / c) - 1 := by
  have e := Int.mul_ediv_add_emod m c
  have l := Int.emod_lt_of_pos m hc
  have l' := Int.emod_nonneg m (show c ≠ 0 by omega)
  generalize hq : m / c = q at *
  generalize hr : m % c = r at *
  by_cases h : r = 0
  · rw [if_pos h]
    have : -m = -q * c := by rw [Int.neg_mul, Int.mul_comm q c]; omega
    rw [this, Int.mul_ediv_cancel _ (by omega)]
  · rw [if_neg h]
    have : -m = (c - r) + (-q - 1) * c := by rw [Int.sub_mul, Int.neg_mul, Int.mul_comm q c, Int.one_mul]; omega
    rw [this, Int.add_mul_ediv_right _ _ (by omega), Int.ediv_eq_zero_of_lt (by omega) (by omega)]
    omega

theorem muldiv_err (a b c : Int) (w : World) (h : b < 0 ∨ c < 1) :
    Calls Try.prog 21 #[.int .i64 a, .int .i64 b, .int .i64 c] w fun e w' => e = .returned (.tuple #[.int .i64 0, .int .i64 2]) ∧ Below w.heap.size w w' := by
  by_cases hb : b < 0
  · go_enter Try.func21, Try.ntmps21
    go_wp2
    go_ret2
    exact ⟨rfl, Below.refl _ _⟩
  · have hc : c < 1 := by omega
    go_enter Try.func21, Try.ntmps21
    go_wp2
    go_ret2
    exact ⟨rfl, Below.refl _ _⟩

set_option maxHeartbeats 400000 in
theorem muldiv_pos (a b c : Int) (w : World) (h1 : 0 ≤ a) (h2 : a ≤ 9223372036854775807) (h3 : 0 ≤ b) (h4 : b ≤ 9223372036854775807) (h5 : 1 ≤ c) (h6 : c ≤ 9223372036854775807) :
    Calls Try.prog 21 #[.int .i64 a, .int .i64 b, .int .i64 c] w fun e w' => e = .returned (.tuple #[.int .i64 (stp (a * b / c)), .int .i64 0]) ∧ Below w.heap.size w w' := by
  have hn : 0 ≤ a * b / c := Int.ediv_nonneg (Int.mul_nonneg h1 h3) (by omega)
  by_cases hq : a * b / c ≤ 9223372036854775807
  · rw [stp_in (by omega) hq]
    have H := Lib.hid fun w => quot_yes a b c _ _ w h1 (by omega) h3 (by omega) (by omega) (by omega) rfl rfl hq
    generalize a * b / c = q at *
    generalize a * b % c = r at *
    go_enter Try.func21, Try.ntmps21
    go_wp2_with (first | (go_at_call 32; go_in) | (go_at_call 34; go_in) | fail)
    refine (H.out _).mono ?_
    rintro e w1 ⟨rfl, hg⟩
    go_wp2
    go_ret2
    exact ⟨rfl, hg⟩
  · rw [stp_hi (by omega)]
    have H := Lib.hid fun w => quot_no a b c w h1 (by omega) h3 (by omega) (by omega) (by omega) (by omega)
    clear hq hn
    go_enter Try.func21, Try.ntmps21
    go_wp2_with (first | (go_at_call 32; go_in) | (go_at_call 34; go_in) | fail)
    refine (H.out _).mono ?_
    rintro e w1 ⟨rfl, hg⟩
    go_wp2
    go_ret2
    exact ⟨rfl, hg⟩

set_option maxHeartbeats 400000 in
theorem muldiv_neg (a b c : Int) (w : World) (h1 : a < 0) (h2 : -9223372036854775808 ≤ a) (h3 : 0 ≤ b) (h4 : b ≤ 9223372036854775807) (h5 : 1 ≤ c) (h6 : c ≤ 9223372036854775807) :
    Calls Try.prog 21 #[.int .i64 a, .int .i64 b, .int .i64 c] w fun e w' => e = .returned (.tuple #[.int .i64 (stp (a * b / c)), .int .i64 0]) ∧ Below w.heap.size w w' := by
  obtain ⟨n, hn⟩ : ∃ n, IntKind.u64.wrap (-IntKind.u64.wrap a) = n := ⟨_, rfl⟩
  have hna : n = -a := by rw [← hn]; simp only [IntKind.wrap_u64]; omega
  have ha : a = -n := by omega
  have hv : a * b / c = if n * b % c = 0 then -(n * b / c) else -(n * b / c) - 1 := by rw [ha, Int.neg_mul, floor_neg _ _ (by omega)]
  have hn0 : 0 ≤ n * b / c := Int.ediv_nonneg (Int.mul_nonneg (by omega) h3) (by omega)
  have hr0 : 0 ≤ n * b % c := Int.emod_nonneg _ (by omega)
  rw [hv]
  by_cases hq : n * b / c ≤ 9223372036854775807
  · have H := Lib.hid fun w => quot_yes n b c _ _ w (by omega) (by omega) h3 (by omega) (by omega) (by omega) rfl rfl hq
    clear hv ha hna
    generalize n * b / c = q at *
    generalize n * b % c = r at *
    by_cases hr : r = 0
    · subst hr
      rw [if_pos rfl, stp_in (by omega) (by omega)]
      go_enter Try.func21, Try.ntmps21
      go_wp2_with (first | (go_at_call 32; go_in) | (go_at_call 34; go_in) | fail)
      refine (H.out _).mono ?_
      rintro e w1 ⟨rfl, hg⟩
      go_wp2
      go_ret2
      exact ⟨rfl, hg⟩
    · rw [if_neg hr, stp_in (by omega) (by omega)]
      have hrb : (r == 0) = false := by simp only [beq_eq_false_iff_ne]; exact hr
      go_enter Try.func21, Try.ntmps21
      go_wp2_with (first | (go_at_call 32; go_in) | (go_at_call 34; go_in) | fail)
      refine (H.out _).mono ?_
      rintro e w1 ⟨rfl, hg⟩
      go_wp2
      go_ret2
      exact ⟨rfl, hg⟩
  · rw [show stp (if n * b % c = 0 then -(n * b / c) else -(n * b / c) - 1) = -9223372036854775808 from stp_lo (by split <;> omega)]
    have H := Lib.hid fun w => quot_no n b c w (by omega) (by omega) h3 (by omega) (by omega) (by omega) (by omega)
    clear hv ha hna hq hn0 hr0
    go_enter Try.func21, Try.ntmps21
    go_wp2_with (first | (go_at_call 32; go_in) | (go_at_call 34; go_in) | fail)
    refine (H.out _).mono ?_
    rintro e w1 ⟨rfl, hg⟩
    go_wp2
    go_ret2
    exact ⟨rfl, hg⟩

theorem muldiv_any (a b c : Int) (w : World) (h1 : -9223372036854775808 ≤ a) (h2 : a ≤ 9223372036854775807) (h3 : 0 ≤ b) (h4 : b ≤ 9223372036854775807) (h5 : 1 ≤ c) (h6 : c ≤ 9223372036854775807) :
    Calls Try.prog 21 #[.int .i64 a, .int .i64 b, .int .i64 c] w fun e w' => e = .returned (.tuple #[.int .i64 (stp (a * b / c)), .int .i64 0]) ∧ Below w.heap.size w w' := by
  by_cases h : a < 0
  · exact muldiv_neg a b c w h h1 h3 h4 h5 h6
  · exact muldiv_pos a b c w (by omega) h2 h3 h4 h5 h6

end Go.Proofs.Ytnooneejidpdaaa
