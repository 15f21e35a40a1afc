/- float64 of whole numbers: how they lie in a cell, and which is less. -/
import Derived.Test.YtjjcoblbiagflaaGreatSw
import Derived.BigQuiet
import Derived.Lib.QuietBelow
import Derived.Laws.Cover2
namespace Go.Proofs.YtjjcoblbiagflaaGreat.kf
open Go.RowKit

@[go_sem] theorem run_store_float (P : Program) (w : World) (a : Addr) (m : Mode) (k : FloatKind) (n : Nat) : (store a (.float k n) m).run P w = stored P w a (.float k n) m := run_store P w a _ m rfl
theorem log2_le15 (m : Nat) (h0 : 0 < m) (h : m ≤ 32768) : m.log2 ≤ 15 := by
  have h1 : 2 ^ m.log2 ≤ m := Nat.log2_self_le (by omega)
  rcases Nat.lt_or_ge 15 m.log2 with h2 | h2
  · have := Nat.pow_le_pow_right (show 0 < 2 by omega) (show 16 ≤ m.log2 by omega)
    have h3 : (2 : Nat) ^ 16 = 65536 := rfl
    omega
  · exact h2
theorem near_rung (m : Nat) (h0 : 0 < m) (h : m ≤ 32768) : 4503599627370496 ≤ m * 2 ^ (52 - m.log2) ∧ m * 2 ^ (52 - m.log2) < 9007199254740992 := by
  have hL := log2_le15 m h0 h
  have h1 : 2 ^ m.log2 ≤ m := Nat.log2_self_le (by omega)
  have h2 : m < 2 ^ (m.log2 + 1) := Nat.lt_log2_self
  have e1 : 2 ^ m.log2 * 2 ^ (52 - m.log2) = 4503599627370496 := by rw [← Nat.pow_add, show m.log2 + (52 - m.log2) = 52 by omega]
  have e2 : 2 ^ (m.log2 + 1) * 2 ^ (52 - m.log2) = 9007199254740992 := by rw [← Nat.pow_add, show m.log2 + 1 + (52 - m.log2) = 53 by omega]
  rw [← e1, ← e2]
  exact ⟨Nat.mul_le_mul_right _ h1, Nat.mul_lt_mul_of_pos_right h2 (Nat.two_pow_pos _)⟩
theorem lp : Ieee.double.leastPlace = -1074 := by decide
theorem near_word (neg : Bool) (m : Nat) (h0 : 0 < m) (h : m ≤ 32768) : Ieee.double.nearest neg m 0 = Ieee.double.word neg ((m.log2 + 1022) * 4503599627370496 + m * 2 ^ (52 - m.log2)) := by
  have hL := log2_le15 m h0 h
  have hR := near_rung m h0 h
  unfold Ieee.Format.nearest
  rw [if_neg (by omega), lp]
  have e1 : max ((0 : Int) + (m.log2 : Nat) - (Ieee.double.fractionBits : Nat)) (-1074) = (m.log2 : Int) - 52 := by
    show max ((0 : Int) + (m.log2 : Nat) - (52 : Nat)) (-1074) = _
    omega
  have e2 : ((0 : Int) - ((m.log2 : Int) - 52)).toNat = 52 - m.log2 := by omega
  have e3 : ((m.log2 : Int) - 52 - 0).toNat = 0 := by omega
  have e4 : ((m.log2 : Int) - 52 - -1074).toNat = m.log2 + 1022 := by omega
  have e5 : Ieee.double.binade = 4503599627370496 := by decide
  have e6 : Ieee.double.infRung = 9218868437227405312 := by decide
  simp only [e1, e2, e3, e4, e5, e6]
  rw [Nat.shiftLeft_eq]
  generalize m * 2 ^ (52 - m.log2) = k at hR ⊢
  have e7 : Ieee.Toward.even.cut neg k 0 = k := by simp [Ieee.Toward.cut, Nat.mod_one]
  rw [e7, Nat.min_eq_left (by omega)]
theorem read_word (neg : Bool) (r : Nat) (h0 : 4503599627370496 ≤ r) (h : r < 9218868437227405312) : Ieee.double.read (Ieee.double.word neg r) = .number neg (4503599627370496 + r % 4503599627370496) (-1074 + (r / 4503599627370496 - 1 : Nat)) := by
  have e5 : Ieee.double.binade = 4503599627370496 := by decide
  have e6 : Ieee.double.infRung = 9218868437227405312 := by decide
  have e8 : Ieee.double.signWeight = 9223372036854775808 := by decide
  have q1 : Ieee.double.word neg r % 9223372036854775808 = r := by unfold Ieee.Format.word; rw [e8]; split <;> omega
  have q2 : (Ieee.double.word neg r / 9223372036854775808 % 2 == 1) = neg := by
    unfold Ieee.Format.word; rw [e8]
    cases neg with
    | true => rw [if_pos rfl, show (9223372036854775808 + r) / 9223372036854775808 % 2 = 1 by omega]; rfl
    | false => rw [if_neg (by decide), show r / 9223372036854775808 % 2 = 0 by omega]; rfl
  unfold Ieee.Format.read
  simp only [e8, q1, q2, e5, e6, lp]
  rw [if_neg (by omega), if_pos h]
/-- What a small whole number's float reads as. -/
theorem read_near (E : Nat) (hE : E = 1074) (x : Int) (h : -32768 ≤ x) (h2 : x ≤ 32768) : ∃ (M p : Nat), Ieee.double.read (FloatKind.nearest .f64 x) = .number (decide (x < 0)) M ((p : Int) - 1074) ∧ M * 2 ^ p = x.natAbs * 2 ^ E := by
  show ∃ (M p : Nat), Ieee.double.read (Ieee.double.nearest (decide (x < 0)) x.natAbs 0) = .number (decide (x < 0)) M ((p : Int) - 1074) ∧ M * 2 ^ p = x.natAbs * 2 ^ E
  rcases Nat.eq_zero_or_pos x.natAbs with h0 | h0
  · have hx : x = 0 := by omega
    subst hx
    exact ⟨0, 0, by decide, by rw [Nat.zero_mul, Int.natAbs_zero, Nat.zero_mul]⟩
  · have hm : x.natAbs ≤ 32768 := by omega
    generalize x.natAbs = m at h0 hm ⊢
    generalize decide (x < 0) = s
    have hL := log2_le15 m h0 hm
    have hR := near_rung m h0 hm
    rw [near_word s m h0 hm, read_word s _ (by omega) (by omega)]
    refine ⟨m * 2 ^ (52 - m.log2), m.log2 + 1022, ?_, ?_⟩
    · generalize m * 2 ^ (52 - m.log2) = k at hR ⊢
      generalize m.log2 = L at hL ⊢
      rw [show 4503599627370496 + ((L + 1022) * 4503599627370496 + k) % 4503599627370496 = k by omega, show ((L + 1022) * 4503599627370496 + k) / 4503599627370496 - 1 = L + 1022 by omega]
      congr 1
    · rw [Nat.mul_assoc, ← Nat.pow_add, show 52 - m.log2 + (m.log2 + 1022) = E by omega]
theorem signed_eq (s : Bool) (M k : Nat) : Ieee.signed s M k = (if s then -1 else 1) * ((M * 2 ^ k : Nat) : Int) := by
  unfold Ieee.signed
  rw [Nat.shiftLeft_eq]
  cases s <;> simp
theorem cmp_scale {a b x y C D : Int} (hC : 0 < C) (hD : 0 < D) (h1 : a * C = x * D) (h2 : b * C = y * D) : compare a b = compare x y := by
  have e1 : a < b ↔ x < y := by
    rw [← Int.mul_lt_mul_right hC, h1, h2, Int.mul_lt_mul_right hD]
  have e2 : a = b ↔ x = y := by
    constructor
    · intro h; subst h; exact Int.eq_of_mul_eq_mul_right (by omega) (h1.symm.trans h2)
    · intro h; subst h; exact Int.eq_of_mul_eq_mul_right (by omega) (h1.trans h2.symm)
  show compareOfLessAndEq a b = compareOfLessAndEq x y
  unfold compareOfLessAndEq
  simp only [e1, e2]
theorem signed_scale (x : Int) (M p m D : Nat) (hm : m ≤ p) (e : M * 2 ^ p = x.natAbs * D) : Ieee.signed (decide (x < 0)) M (p - m) * ((2 ^ m : Nat) : Int) = x * (D : Int) := by
  have e1 : M * 2 ^ (p - m) * 2 ^ m = x.natAbs * D := by rw [Nat.mul_assoc, ← Nat.pow_add, show p - m + m = p by omega]; exact e
  rw [signed_eq, Int.mul_assoc, ← Int.natCast_mul, e1, Int.natCast_mul, ← Int.mul_assoc]
  congr 1
  by_cases hx : x < 0
  · rw [if_pos (by simpa using hx)]; omega
  · rw [if_neg (by simpa using hx)]; omega
theorem order_near (x y : Int) (h : -32768 ≤ x) (h2 : x ≤ 32768) (g : -32768 ≤ y) (g2 : y ≤ 32768) : FloatKind.f64.format.order (FloatKind.nearest .f64 x) (FloatKind.nearest .f64 y) = some (compare x y) := by
  obtain ⟨E, hE⟩ : ∃ E : Nat, E = 1074 := ⟨_, rfl⟩
  obtain ⟨M, p, r1, e1⟩ := read_near E hE x h h2
  obtain ⟨N, q, r2, e2⟩ := read_near E hE y g g2
  show (Ieee.double.read (FloatKind.nearest .f64 x)).order (Ieee.double.read (FloatKind.nearest .f64 y)) = _
  rw [r1, r2]
  obtain ⟨D, hD, hD0⟩ : ∃ D : Nat, D = 2 ^ E ∧ 0 < D := ⟨_, rfl, Nat.two_pow_pos E⟩
  rw [← hD] at e1 e2
  clear hD
  show some (compare (Ieee.signed (decide (x < 0)) M ((p : Int) - 1074 - min ((p : Int) - 1074) ((q : Int) - 1074)).toNat) (Ieee.signed (decide (y < 0)) N ((q : Int) - 1074 - min ((p : Int) - 1074) ((q : Int) - 1074)).toNat)) = _
  rw [show ((p : Int) - 1074 - min ((p : Int) - 1074) ((q : Int) - 1074)).toNat = p - min p q by omega, show ((q : Int) - 1074 - min ((p : Int) - 1074) ((q : Int) - 1074)).toNat = q - min p q by omega]
  congr 1
  exact cmp_scale (C := ((2 ^ min p q : Nat) : Int)) (D := (D : Int)) (by exact_mod_cast Nat.two_pow_pos _) (by omega) (signed_scale x M p _ D (Nat.min_le_left _ _) e1) (signed_scale y N q _ D (Nat.min_le_right _ _) e2)

abbrev A := Int16
def fb (x : Int16) : Nat := floatOfInt .f64 x.toInt
def enc (x : A) : Value := .float .f64 (fb x)
def lt (x y : A) : Bool := decide (x.toInt < y.toInt)
abbrev T : TypeId := 28
theorem i16_rng (x : Int16) : -32768 ≤ x.toInt ∧ x.toInt ≤ 32768 := by
  have h1 := x.le_toInt
  have h2 := x.toInt_lt
  omega
theorem fb_order (x y : Int16) : FloatKind.f64.format.order (fb x) (fb y) = some (compare x.toInt y.toInt) := order_near _ _ (i16_rng x).1 (i16_rng x).2 (i16_rng y).1 (i16_rng y).2
theorem fb_lt (x y : Int16) : (FloatKind.f64.format.order (fb x) (fb y) == some .lt) = lt x y := by
  rw [fb_order]
  unfold lt
  rcases Int.lt_trichotomy x.toInt y.toInt with h | h | h
  · rw [show compare x.toInt y.toInt = .lt from Int.compare_eq_lt.2 h]; simp [h]
  · rw [h]; simp
  · rw [show compare x.toInt y.toInt = .gt from Int.compare_eq_gt.2 h]; simp; omega
theorem fb_eq (x : Int16) : (FloatKind.f64.format.order (fb x) (fb x) != some .eq) = false := by
  rw [fb_order]; simp
theorem enc_one (x : A) : (enc x).oneCell' = true := by simp [enc, Value.oneCell']
theorem enc_ex (x : A) : ∃ y, enc x = (.float .f64 y) := ⟨_, rfl⟩
theorem isnan_any (x : A) (w : World) : Calls Tryz.prog 90 #[enc x] w fun e w' => e = .returned (.bool false) ∧ w = w' := by
  have h := fb_eq x
  unfold enc
  generalize fb x = a at h ⊢
  go_enter Tryz.func90, Tryz.ntmps90
  go_wp2
  go_ret
  simp
theorem less_any (x y : A) (w : World) : Calls Tryz.prog 51 #[enc x, enc y] w fun e w' => e = .returned (.bool (lt x y)) ∧ w = w' := by
  have K := Lib.hid (fun w => isnan_any x w)
  have h := fb_lt x y
  unfold enc at *
  generalize fb x = a at h K ⊢
  generalize fb y = b at h ⊢
  generalize lt x y = c at h ⊢
  go_enter Tryz.func51, Tryz.ntmps51
  go_wp2_with fail
  refine (K.out _).mono ?_
  rintro e w1 ⟨rfl, rfl⟩
  go_wp2
  go_ret
  simp
end Go.Proofs.YtjjcoblbiagflaaGreat.kf
