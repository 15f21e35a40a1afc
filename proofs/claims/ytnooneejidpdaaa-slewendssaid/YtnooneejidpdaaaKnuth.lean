/- The division of a number of four digits by one of two, digit by digit, as plain arithmetic: no program in this text. -/
import Derived.Test.YtnooneejidpdaaaNum
namespace Go.Proofs.Ytnooneejidpdaaa

/-- A guess of a digit: the rest belongs to it, it is not below the true one, and at most two above. -/
structure LR (u d y1 y0 q r : Int) : Prop where
  eq : q * y1 + r = u
  top : u * 4294967296 + d < q * (y1 * 4294967296 + y0) + (y1 * 4294967296 + y0)
  qle : q ≤ 4294967297

/-- The true digit. -/
structure Dig (u d Y q : Int) : Prop where
  le : q * Y ≤ u * 4294967296 + d
  top : u * 4294967296 + d < q * Y + Y

theorem spread (q y1 y0 : Int) : q * (y1 * 4294967296 + y0) = q * y1 * 4294967296 + q * y0 := by rw [Int.mul_add, Int.mul_assoc]

theorem LR.start {u d y1 y0 : Int} (hu0 : 0 ≤ u) (hd : d < 4294967296) (h00 : 0 ≤ y0) (h0 : y0 < 4294967296) (h1 : 2147483648 ≤ y1) (hu : u < y1 * 4294967296 + y0) :
    LR u d y1 y0 (u / y1) (u - u / y1 * y1) ∧ u / y1 * y1 ≤ u ∧ u - u / y1 * y1 < y1 ∧ 0 ≤ u / y1 := by
  have e := Int.mul_ediv_add_emod u y1
  have l := Int.emod_lt_of_pos u (show 0 < y1 by omega)
  have l' := Int.emod_nonneg u (show y1 ≠ 0 by omega)
  have q0 := Int.ediv_nonneg hu0 (show 0 ≤ y1 by omega)
  have m0 := Int.mul_nonneg q0 h00
  have a := spread (u / y1) y1 y0
  rw [Int.mul_comm] at e
  refine ⟨⟨by omega, ?_, ?_⟩, by omega, by omega, q0⟩
  · rw [a]; omega
  · have hq : u < 4294967298 * y1 := by omega
    exact Int.le_of_lt_add_one ((Int.ediv_lt_iff_lt_mul (show 0 < y1 by omega)).2 hq)
theorem LR.big {u d y1 y0 q r : Int} (_h : LR u d y1 y0 q r) (h00 : 0 ≤ y0) (h1 : 0 ≤ y1) (hd : d < 4294967296) (hu : u < y1 * 4294967296 + y0) (hq : 4294967296 ≤ q) : u * 4294967296 + d < q * (y1 * 4294967296 + y0) := by
  have := Int.mul_le_mul_of_nonneg_right hq (show 0 ≤ y1 * 4294967296 + y0 by omega)
  omega
theorem LR.test {u d y1 y0 q r : Int} (h : LR u d y1 y0 q r) (ht : 4294967296 * r + d < q * y0) : u * 4294967296 + d < q * (y1 * 4294967296 + y0) := by
  have e := h.eq
  rw [spread]; omega
theorem LR.down {u d y1 y0 q r : Int} (h : LR u d y1 y0 q r) (hb : u * 4294967296 + d < q * (y1 * 4294967296 + y0)) : LR u d y1 y0 (q - 1) (r + y1) := by
  have e := h.eq
  have s := h.qle
  have a1 : (q - 1) * y1 = q * y1 - y1 := by rw [Int.sub_mul, Int.one_mul]
  have a2 : (q - 1) * (y1 * 4294967296 + y0) = q * (y1 * 4294967296 + y0) - (y1 * 4294967296 + y0) := by rw [Int.sub_mul, Int.one_mul]
  exact ⟨by omega, by rw [a2]; omega, by omega⟩
theorem LR.pos {u d y1 y0 q : Int} (hu0 : 0 ≤ u) (hd0 : 0 ≤ d) (h00 : 0 ≤ y0) (h1 : 0 ≤ y1) (hb : u * 4294967296 + d < q * (y1 * 4294967296 + y0)) : 1 ≤ q := by
  refine Int.not_lt.1 fun hq => ?_
  have := Int.mul_le_mul_of_nonneg_right (show q ≤ 0 by omega) (show 0 ≤ y1 * 4294967296 + y0 by omega)
  omega
theorem LR.low {u d y1 y0 q r : Int} (h : LR u d y1 y0 q r) (ht : q * y0 ≤ 4294967296 * r + d) : Dig u d (y1 * 4294967296 + y0) q := by
  have e := h.eq
  exact ⟨by rw [spread]; omega, h.top⟩
theorem LR.out {u d y1 y0 q r : Int} (h : LR u d y1 y0 q r) (hd0 : 0 ≤ d) (h00 : 0 ≤ y0) (h0 : y0 < 4294967296) (hq : q ≤ 4294967296) (hr : 4294967296 ≤ r) : Dig u d (y1 * 4294967296 + y0) q := by
  refine h.low ?_
  have a := Int.mul_le_mul_of_nonneg_right hq h00
  omega
theorem Dig.small {u d Y q : Int} (h : Dig u d Y q) (hY : 0 ≤ Y) (hd : d < 4294967296) (hu : u < Y) : q < 4294967296 := by
  apply Int.lt_of_not_ge
  intro hq
  have := Int.mul_le_mul_of_nonneg_right hq hY
  have := h.le
  omega
theorem Dig.nonneg {u d Y q : Int} (h : Dig u d Y q) (hu0 : 0 ≤ u) (hd0 : 0 ≤ d) (hY : 0 ≤ Y) : 0 ≤ q := by
  refine Int.not_lt.1 fun hq => ?_
  have := Int.mul_le_mul_of_nonneg_right (show q ≤ -1 by omega) hY
  have := h.top
  omega

/-- What is left, as it is reckoned round and round. -/
theorem Dig.rest {u d Y q : Int} (h : Dig u d Y q) (hY : Y < 18446744073709551616) :
    ∃ v : Int, 0 ≤ v ∧ v < Y ∧ q * Y + v = u * 4294967296 + d ∧ (((u * 4294967296) % 18446744073709551616 + d) % 18446744073709551616 - (q * Y) % 18446744073709551616) % 18446744073709551616 = v := by
  have h1 := h.le
  have h2 := h.top
  refine ⟨u * 4294967296 + d - q * Y, by omega, by omega, by omega, ?_⟩
  generalize q * Y = p at *
  omega

/-- The two digits together. -/
theorem knuth_end {u l1 l0 Y q1 q0 v r0 M T y : Nat} (hT : 0 < T) (hy : 0 < y) (hY : y * T = Y) (hM : M * T = u * 18446744073709551616 + (l1 * 4294967296 + l0))
    (e1 : q1 * Y + v = u * 4294967296 + l1) (e0 : q0 * Y + r0 = v * 4294967296 + l0) (hr : r0 < Y) : q1 * 4294967296 + q0 = M / y ∧ r0 / T = M % y := by
  have e : M * T = (q1 * 4294967296 + q0) * y * T + r0 := by
    rw [hM, Nat.mul_assoc, hY, Nat.add_mul, Nat.mul_right_comm]
    omega
  have hle : (q1 * 4294967296 + q0) * y ≤ M := by
    apply Nat.le_of_mul_le_mul_right _ hT
    omega
  obtain ⟨x, hx⟩ : ∃ x, M = (q1 * 4294967296 + q0) * y + x := ⟨M - (q1 * 4294967296 + q0) * y, by omega⟩
  have hr0 : r0 = x * T := by rw [hx, Nat.add_mul] at e; omega
  have hxy : x < y := by
    apply Nat.lt_of_mul_lt_mul_right (a := T)
    rw [← hr0, hY]; exact hr
  refine ⟨?_, ?_⟩
  · rw [hx, Nat.mul_comm (q1 * 4294967296 + q0) y, Nat.mul_add_div hy, Nat.div_eq_of_lt hxy, Nat.add_zero]
  · rw [hr0, Nat.mul_div_cancel _ hT, hx, Nat.mul_comm (q1 * 4294967296 + q0) y, Nat.mul_add_mod, Nat.mod_eq_of_lt hxy]

/-- The numbers moved up until the divisor's upper bit is set. -/
theorem norm {hi lo y s : Nat} (hs : s ≤ 63) (hlo : lo < 18446744073709551616) (hh : hi < y) (hy : y * 2 ^ s < 18446744073709551616) :
    hi * 2 ^ s < 18446744073709551616 ∧ lo / 2 ^ (64 - s) < 2 ^ s ∧ hi * 2 ^ s + lo / 2 ^ (64 - s) < y * 2 ^ s ∧
    (hi * 18446744073709551616 + lo) * 2 ^ s = (hi * 2 ^ s + lo / 2 ^ (64 - s)) * 18446744073709551616 + (lo * 2 ^ s) % 18446744073709551616 := by
  have hT : 0 < 2 ^ s := Nat.two_pow_pos s
  have hp : 2 ^ (64 - s) * 2 ^ s = 18446744073709551616 := by rw [← Nat.pow_add, show 64 - s + s = 64 by omega]
  have h1 := Nat.mul_le_mul_right (2 ^ s) (show hi + 1 ≤ y from hh)
  rw [Nat.succ_mul] at h1
  have h2 : lo / 2 ^ (64 - s) = lo * 2 ^ s / 18446744073709551616 := by rw [← hp, Nat.mul_div_mul_right _ _ hT]
  have h3 : lo / 2 ^ (64 - s) < 2 ^ s := by apply Nat.div_lt_of_lt_mul; rw [hp]; exact hlo
  refine ⟨by omega, h3, by omega, ?_⟩
  rw [h2, Nat.add_mul, Nat.mul_right_comm]
  omega
end Go.Proofs.Ytnooneejidpdaaa
