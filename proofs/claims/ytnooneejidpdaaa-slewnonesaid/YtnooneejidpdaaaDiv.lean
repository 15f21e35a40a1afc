/- math/bits.Div64 by its number, and what it returns. -/
import Derived.Test.YtnooneejidpdaaaRows
import Derived.Test.YtnooneejidpdaaaKnuth
import Derived.Test.YtnooneejidpdaaaShelf
import Derived.WalkKit
import Derived.WalkSpells
import Derived.Laws.BitsLemmas
import Derived.Laws.Bits64b
import Derived.Lib.Hide
import Derived.BigQuiet
namespace Go.Proofs.Ytnooneejidpdaaa
open Go.RowKit

theorem div_small (lo y : Nat) (w : World) (h1 : 0 < y) (h2 : y < 18446744073709551616) (h3 : lo < 18446744073709551616) :
    Calls Try.prog 41 #[.int .u64 0, .int .u64 lo, .int .u64 y] w fun e w' => e = .returned (.tuple #[.int .u64 ((lo / y : Nat) : Int), .int .u64 ((lo % y : Nat) : Int)]) ∧ Below w.heap.size w w' := by
  have hw : IntKind.u64.wrap ((lo : Int) / (y : Int)) = ((lo / y : Nat) : Int) := by
    have := Nat.div_le_self lo y
    rw [IntKind.wrap_u64, ← Int.natCast_ediv]
    generalize lo / y = q at *
    omega
  have HW := Lib.hid hw
  clear hw
  go_enter Try.func41, Try.ntmps41
  go_wp2
  go_region
  all_goals
    go_wp2
    go_ret2
    refine ⟨?_, (Below.refl _ _).drew⟩
    show Ending.returned (.tuple #[.int .u64 _, .int .u64 _]) = _
    rw [HW.out]; rfl

theorem bitLen_bounds (x : Nat) (h0 : 0 < x) (h : x < 2 ^ 64) : ∃ k, Lib.bitLen x = k + 1 ∧ 2 ^ k ≤ x ∧ x < 2 ^ (k + 1) := by
  induction x using Nat.strongRecOn with
  | _ x ih =>
    have e := Lib.bitLen_half x (by omega) h
    by_cases h1 : x = 1
    · subst h1; exact ⟨0, by decide, by decide, by decide⟩
    · obtain ⟨k, e', l, t⟩ := ih (x / 2) (by omega) (by omega) (by omega)
      refine ⟨k + 1, by omega, ?_, ?_⟩
      · rw [Nat.pow_succ]; omega
      · rw [Nat.pow_succ]; omega

theorem after1 {u l1 l0 Y y1 y0 q : Int} (hD : Dig u l1 Y q) (HY : Y = y1 * 4294967296 + y0) (b1 : 2147483648 ≤ y1) (_b2 : y1 < 4294967296) (b30 : 0 ≤ y0) (b3 : y0 < 4294967296) (b4 : Y < 18446744073709551616)
    (b50 : 0 ≤ u) (b5 : u < Y) (b60 : 0 ≤ l1) (b6 : l1 < 4294967296) (_b70 : 0 ≤ l0) (b7 : l0 < 4294967296) :
    ∃ v q0 p0 : Int, 0 ≤ q ∧ 0 ≤ v ∧ v < Y ∧ q * Y + v = u * 4294967296 + l1 ∧
      IntKind.u64.wrap (IntKind.u64.wrap (IntKind.u64.wrap (u * 4294967296) + l1) - IntKind.u64.wrap (q * Y)) = v ∧ v / y1 = q0 ∧ q0 * y1 = p0 ∧
      LR v l0 y1 y0 q0 (v - p0) ∧ 0 ≤ p0 ∧ 0 ≤ q0 ∧ q0 ≤ 4294967297 ∧ p0 ≤ v ∧ v < p0 + y1 ∧ q < 4294967296 := by
  obtain ⟨v, c1, c2, c3, c4⟩ := hD.rest b4
  obtain ⟨d1, d2, d3, d4⟩ := LR.start (u := v) (d := l0) c1 b7 b30 b3 b1 (by omega)
  refine ⟨v, v / y1, v / y1 * y1, hD.nonneg b50 b60 (by omega), c1, c2, c3, by simp only [IntKind.wrap_u64]; exact c4, rfl, rfl, d1, Int.mul_nonneg d4 (by omega), d4, d1.qle, d2, by omega, hD.small (by omega) b6 b5⟩

set_option maxHeartbeats 2000000 in
set_option maxRecDepth 100000 in
theorem div_core (hi lo y Y y1 y0 u l l1 l0 q p : Int) (s : Nat) (w : World) (h0 : 0 < hi) (h1 : hi < y) (_h2 : y < 18446744073709551616) (_h30 : 0 ≤ lo) (_h3 : lo < 18446744073709551616)
    (hlz : Hid (∀ w, Calls Try.prog 44 #[.int .u64 y] w fun e w' => e = .returned (.int .i64 s) ∧ w = w')) (hs : s ≤ 63)
    (eY : IntKind.u64.wrap (y * 2 ^ s) = Y) (e1 : Y / 4294967296 = y1) (e0 : bits .and .u64 Y 4294967295 = y0)
    (eu : bits .or .u64 (IntKind.u64.wrap (hi * 2 ^ s)) (lo / 2 ^ (64 - s)) = u)
    (el : IntKind.u64.wrap (lo * 2 ^ s) = l) (el1 : l / 4294967296 = l1) (el0 : bits .and .u64 l 4294967295 = l0)
    (eq : u / y1 = q) (ep : q * y1 = p)
    (b1 : 2147483648 ≤ y1) (b2 : y1 < 4294967296) (b30 : 0 ≤ y0) (b3 : y0 < 4294967296) (b40 : 0 ≤ Y) (b4 : Y < 18446744073709551616) (b50 : 0 ≤ u) (b5 : u < Y)
    (b60 : 0 ≤ l1) (b6 : l1 < 4294967296) (b70 : 0 ≤ l0) (b7 : l0 < 4294967296) (b80 : 0 ≤ q) (b8 : q ≤ 4294967297) (b90 : 0 ≤ p) (b9 : p ≤ u) (b10 : u < p + y1)
    (hst : LR u l1 y1 y0 q (u - p)) (HY : Hid (Y = y1 * 4294967296 + y0)) (R : Int × Int)
    (HR : Hid (∀ q1 v q0 r0 : Int, 0 ≤ q1 → 0 ≤ v → 0 ≤ q0 → 0 ≤ r0 → q1 * Y + v = u * 4294967296 + l1 → q0 * Y + r0 = v * 4294967296 + l0 → r0 < Y → (q1 * 4294967296 + q0, r0 / 2 ^ s) = R)) :
    Calls Try.prog 41 #[.int .u64 hi, .int .u64 lo, .int .u64 y] w fun e w' => e = .returned (.tuple #[.int .u64 R.1, .int .u64 R.2]) ∧ w = w' := by
  go_enter Try.func41, Try.ntmps41
  go_wp2_with fail
  refine (hlz.out _).mono ?_
  rintro e w' ⟨rfl, rfl⟩
  go_wp2_with fail
  have EQ := Lib.hid eq
  have EP := Lib.hid ep
  clear eY e1 e0 eu el el1 el0 eq ep
  go_loop [15, 16] (fun a b => ∃ q r : Int, a = .int .u64 q ∧ b = .int .u64 r ∧ 0 ≤ r ∧ r < 4294967296 ∧ 0 ≤ q ∧ q ≤ 4294967297 ∧ LR u l1 y1 y0 q r) (fun a _ => (intOf a).toNat)
  case atStart =>
    exact ⟨q, u - p, by rw [EQ.out], rfl, by omega, by omega, b80, b8, hst⟩
  case round =>
    clear hst b80 b8 b90 b9 b10 EQ EP
    obtain ⟨q, r, rfl, rfl, hr0, hr, hq0, hq, hL⟩ := hrel
    by_cases hbig : 4294967296 ≤ q
    · have hb := hL.big b30 (by omega) b6 (by have := HY.out; omega) hbig
      have hdn := hL.down hb
      clear hb
      obtain ⟨k, hk⟩ : ∃ k, q - 1 = k := ⟨_, rfl⟩
      rw [hk] at hdn
      by_cases hrr : 4294967296 ≤ r + y1
      · have hD := hdn.out b60 b30 b3 (by omega) hrr
        rw [← HY.out] at hD
        clear hdn
        obtain ⟨v, q0, p0, a0, a1, a2, a3, a4, a5, a6, a7, a8, a9, a10, a11, a12, a13⟩ := after1 hD HY.out b1 b2 b30 b3 b4 b50 b5 b60 b6 b70 b7
        have A3 := Lib.hid a3
        clear a3 hL
        go_wp2_with fail
        clear a4 a5 a6
        go_loop [18, 16] (fun a b => ∃ q r : Int, a = .int .u64 q ∧ b = .int .u64 r ∧ 0 ≤ r ∧ r < 4294967296 ∧ 0 ≤ q ∧ q ≤ 4294967297 ∧ LR v l0 y1 y0 q r) (fun a _ => (intOf a).toNat)
        case atStart =>
          exact ⟨q0, v - p0, rfl, rfl, by omega, by omega, a9, a10, a7⟩
        case round =>
          clear a7 a8 a9 a10 a11 a12
          obtain ⟨q, r, rfl, rfl, hr0, hr, hq0, hq, hL⟩ := hrel
          by_cases hbig : 4294967296 ≤ q
          · have hb := hL.big b30 (by omega) b7 (by have := HY.out; omega) hbig
            have hdn := hL.down hb
            clear hb
            obtain ⟨k, hk⟩ : ∃ k, q - 1 = k := ⟨_, rfl⟩
            rw [hk] at hdn
            by_cases hrr : 4294967296 ≤ r + y1
            · have hD := hdn.out b70 b30 b3 (by omega) hrr
              rw [← HY.out] at hD
              clear hdn
              obtain ⟨r0, c1, c2, c3, c4⟩ := hD.rest b4
              have c5 := hD.small b40 b7 (by omega)
              have c6 := hD.nonneg (by omega) b70 b40
              have C3 := Lib.hid c3
              clear c3
              have C7 := HR.out _ _ _ _ a0 a1 c6 c1 A3.out C3.out c2
              have C8 := Lib.hid C7
              clear C7
              have c9 : IntKind.u64.wrap (IntKind.u64.wrap (IntKind.u64.wrap (v * 4294967296) + l0) - IntKind.u64.wrap (k * Y)) = r0 := by
                simp only [IntKind.wrap_u64]; exact c4
              clear c4
              go_wp2_with fail
              go_ret2
              exact ⟨by rw [← C8.out]; rfl, rfl⟩
            · clear hL
              go_wp2_with fail
              exact ⟨⟨k, r + y1, rfl, rfl, by omega, by omega, by omega, by omega, hdn⟩, by simp [intOf]; omega⟩
          · obtain ⟨m, hm⟩ : ∃ m : Int, q * y0 = m := ⟨_, rfl⟩
            have hm0 : 0 ≤ m := by rw [← hm]; exact Int.mul_nonneg hq0 b30
            have hm2 : m < 18446744073709551616 := by
              have := Int.mul_le_mul (show q ≤ 4294967295 by omega) (show y0 ≤ 4294967295 by omega) b30 (by omega)
              omega
            by_cases ht : 4294967296 * r + l0 < m
            · have hb := hL.test (by rw [hm]; exact ht)
              have hdn := hL.down hb
              have hpos := LR.pos a1 b70 b30 (by omega) hb
              clear hb
              obtain ⟨k, hk⟩ : ∃ k, q - 1 = k := ⟨_, rfl⟩
              rw [hk] at hdn
              by_cases hrr : 4294967296 ≤ r + y1
              · have hD := hdn.out b70 b30 b3 (by omega) hrr
                rw [← HY.out] at hD
                clear hdn
                obtain ⟨r0, c1, c2, c3, c4⟩ := hD.rest b4
                have c5 := hD.small b40 b7 (by omega)
                have c6 := hD.nonneg (by omega) b70 b40
                have C3 := Lib.hid c3
                clear c3
                have C7 := HR.out _ _ _ _ a0 a1 c6 c1 A3.out C3.out c2
                have C8 := Lib.hid C7
                clear C7
                have c9 : IntKind.u64.wrap (IntKind.u64.wrap (IntKind.u64.wrap (v * 4294967296) + l0) - IntKind.u64.wrap (k * Y)) = r0 := by
                  simp only [IntKind.wrap_u64]; exact c4
                clear c4
                go_wp2_with fail
                go_ret2
                exact ⟨by rw [← C8.out]; rfl, rfl⟩
              · clear hL
                go_wp2_with fail
                exact ⟨⟨k, r + y1, rfl, rfl, by omega, by omega, by omega, by omega, hdn⟩, by simp [intOf]; omega⟩
            · have hD := hL.low (by rw [hm]; omega)
              rw [← HY.out] at hD
              obtain ⟨r0, c1, c2, c3, c4⟩ := hD.rest b4
              have c5 := hD.small b40 b7 (by omega)
              have c6 := hD.nonneg (by omega) b70 b40
              have C3 := Lib.hid c3
              clear c3
              have C7 := HR.out _ _ _ _ a0 a1 c6 c1 A3.out C3.out c2
              have C8 := Lib.hid C7
              clear C7
              have c9 : IntKind.u64.wrap (IntKind.u64.wrap (IntKind.u64.wrap (v * 4294967296) + l0) - IntKind.u64.wrap (q * Y)) = r0 := by
                simp only [IntKind.wrap_u64]; exact c4
              clear c4
              go_wp2_with fail
              go_ret2
              exact ⟨by rw [← C8.out]; rfl, rfl⟩
      · clear hL
        go_wp2_with fail
        exact ⟨⟨k, r + y1, rfl, rfl, by omega, by omega, by omega, by omega, hdn⟩, by simp [intOf]; omega⟩
    · obtain ⟨m, hm⟩ : ∃ m : Int, q * y0 = m := ⟨_, rfl⟩
      have hm0 : 0 ≤ m := by rw [← hm]; exact Int.mul_nonneg hq0 b30
      have hm2 : m < 18446744073709551616 := by
        have := Int.mul_le_mul (show q ≤ 4294967295 by omega) (show y0 ≤ 4294967295 by omega) b30 (by omega)
        omega
      by_cases ht : 4294967296 * r + l1 < m
      · have hb := hL.test (by rw [hm]; exact ht)
        have hdn := hL.down hb
        have hpos := LR.pos b50 b60 b30 (by omega) hb
        clear hb
        obtain ⟨k, hk⟩ : ∃ k, q - 1 = k := ⟨_, rfl⟩
        rw [hk] at hdn
        by_cases hrr : 4294967296 ≤ r + y1
        · have hD := hdn.out b60 b30 b3 (by omega) hrr
          rw [← HY.out] at hD
          clear hdn
          obtain ⟨v, q0, p0, a0, a1, a2, a3, a4, a5, a6, a7, a8, a9, a10, a11, a12, a13⟩ := after1 hD HY.out b1 b2 b30 b3 b4 b50 b5 b60 b6 b70 b7
          have A3 := Lib.hid a3
          clear a3 hL
          go_wp2_with fail
          clear a4 a5 a6
          go_loop [18, 16] (fun a b => ∃ q r : Int, a = .int .u64 q ∧ b = .int .u64 r ∧ 0 ≤ r ∧ r < 4294967296 ∧ 0 ≤ q ∧ q ≤ 4294967297 ∧ LR v l0 y1 y0 q r) (fun a _ => (intOf a).toNat)
          case atStart =>
            exact ⟨q0, v - p0, rfl, rfl, by omega, by omega, a9, a10, a7⟩
          case round =>
            clear a7 a8 a9 a10 a11 a12
            obtain ⟨q, r, rfl, rfl, hr0, hr, hq0, hq, hL⟩ := hrel
            by_cases hbig : 4294967296 ≤ q
            · have hb := hL.big b30 (by omega) b7 (by have := HY.out; omega) hbig
              have hdn := hL.down hb
              clear hb
              obtain ⟨k, hk⟩ : ∃ k, q - 1 = k := ⟨_, rfl⟩
              rw [hk] at hdn
              by_cases hrr : 4294967296 ≤ r + y1
              · have hD := hdn.out b70 b30 b3 (by omega) hrr
                rw [← HY.out] at hD
                clear hdn
                obtain ⟨r0, c1, c2, c3, c4⟩ := hD.rest b4
                have c5 := hD.small b40 b7 (by omega)
                have c6 := hD.nonneg (by omega) b70 b40
                have C3 := Lib.hid c3
                clear c3
                have C7 := HR.out _ _ _ _ a0 a1 c6 c1 A3.out C3.out c2
                have C8 := Lib.hid C7
                clear C7
                have c9 : IntKind.u64.wrap (IntKind.u64.wrap (IntKind.u64.wrap (v * 4294967296) + l0) - IntKind.u64.wrap (k * Y)) = r0 := by
                  simp only [IntKind.wrap_u64]; exact c4
                clear c4
                go_wp2_with fail
                go_ret2
                exact ⟨by rw [← C8.out]; rfl, rfl⟩
              · clear hL
                go_wp2_with fail
                exact ⟨⟨k, r + y1, rfl, rfl, by omega, by omega, by omega, by omega, hdn⟩, by simp [intOf]; omega⟩
            · obtain ⟨m, hm⟩ : ∃ m : Int, q * y0 = m := ⟨_, rfl⟩
              have hm0 : 0 ≤ m := by rw [← hm]; exact Int.mul_nonneg hq0 b30
              have hm2 : m < 18446744073709551616 := by
                have := Int.mul_le_mul (show q ≤ 4294967295 by omega) (show y0 ≤ 4294967295 by omega) b30 (by omega)
                omega
              by_cases ht : 4294967296 * r + l0 < m
              · have hb := hL.test (by rw [hm]; exact ht)
                have hdn := hL.down hb
                have hpos := LR.pos a1 b70 b30 (by omega) hb
                clear hb
                obtain ⟨k, hk⟩ : ∃ k, q - 1 = k := ⟨_, rfl⟩
                rw [hk] at hdn
                by_cases hrr : 4294967296 ≤ r + y1
                · have hD := hdn.out b70 b30 b3 (by omega) hrr
                  rw [← HY.out] at hD
                  clear hdn
                  obtain ⟨r0, c1, c2, c3, c4⟩ := hD.rest b4
                  have c5 := hD.small b40 b7 (by omega)
                  have c6 := hD.nonneg (by omega) b70 b40
                  have C3 := Lib.hid c3
                  clear c3
                  have C7 := HR.out _ _ _ _ a0 a1 c6 c1 A3.out C3.out c2
                  have C8 := Lib.hid C7
                  clear C7
                  have c9 : IntKind.u64.wrap (IntKind.u64.wrap (IntKind.u64.wrap (v * 4294967296) + l0) - IntKind.u64.wrap (k * Y)) = r0 := by
                    simp only [IntKind.wrap_u64]; exact c4
                  clear c4
                  go_wp2_with fail
                  go_ret2
                  exact ⟨by rw [← C8.out]; rfl, rfl⟩
                · clear hL
                  go_wp2_with fail
                  exact ⟨⟨k, r + y1, rfl, rfl, by omega, by omega, by omega, by omega, hdn⟩, by simp [intOf]; omega⟩
              · have hD := hL.low (by rw [hm]; omega)
                rw [← HY.out] at hD
                obtain ⟨r0, c1, c2, c3, c4⟩ := hD.rest b4
                have c5 := hD.small b40 b7 (by omega)
                have c6 := hD.nonneg (by omega) b70 b40
                have C3 := Lib.hid c3
                clear c3
                have C7 := HR.out _ _ _ _ a0 a1 c6 c1 A3.out C3.out c2
                have C8 := Lib.hid C7
                clear C7
                have c9 : IntKind.u64.wrap (IntKind.u64.wrap (IntKind.u64.wrap (v * 4294967296) + l0) - IntKind.u64.wrap (q * Y)) = r0 := by
                  simp only [IntKind.wrap_u64]; exact c4
                clear c4
                go_wp2_with fail
                go_ret2
                exact ⟨by rw [← C8.out]; rfl, rfl⟩
        · clear hL
          go_wp2_with fail
          exact ⟨⟨k, r + y1, rfl, rfl, by omega, by omega, by omega, by omega, hdn⟩, by simp [intOf]; omega⟩
      · have hD := hL.low (by rw [hm]; omega)
        rw [← HY.out] at hD
        obtain ⟨v, q0, p0, a0, a1, a2, a3, a4, a5, a6, a7, a8, a9, a10, a11, a12, a13⟩ := after1 hD HY.out b1 b2 b30 b3 b4 b50 b5 b60 b6 b70 b7
        have A3 := Lib.hid a3
        clear a3 hL
        go_wp2_with fail
        clear a4 a5 a6
        go_loop [18, 16] (fun a b => ∃ q r : Int, a = .int .u64 q ∧ b = .int .u64 r ∧ 0 ≤ r ∧ r < 4294967296 ∧ 0 ≤ q ∧ q ≤ 4294967297 ∧ LR v l0 y1 y0 q r) (fun a _ => (intOf a).toNat)
        case atStart =>
          exact ⟨q0, v - p0, rfl, rfl, by omega, by omega, a9, a10, a7⟩
        case round =>
          clear a7 a8 a9 a10 a11 a12
          obtain ⟨q, r, rfl, rfl, hr0, hr, hq0, hq, hL⟩ := hrel
          by_cases hbig : 4294967296 ≤ q
          · have hb := hL.big b30 (by omega) b7 (by have := HY.out; omega) hbig
            have hdn := hL.down hb
            clear hb
            obtain ⟨k, hk⟩ : ∃ k, q - 1 = k := ⟨_, rfl⟩
            rw [hk] at hdn
            by_cases hrr : 4294967296 ≤ r + y1
            · have hD := hdn.out b70 b30 b3 (by omega) hrr
              rw [← HY.out] at hD
              clear hdn
              obtain ⟨r0, c1, c2, c3, c4⟩ := hD.rest b4
              have c5 := hD.small b40 b7 (by omega)
              have c6 := hD.nonneg (by omega) b70 b40
              have C3 := Lib.hid c3
              clear c3
              have C7 := HR.out _ _ _ _ a0 a1 c6 c1 A3.out C3.out c2
              have C8 := Lib.hid C7
              clear C7
              have c9 : IntKind.u64.wrap (IntKind.u64.wrap (IntKind.u64.wrap (v * 4294967296) + l0) - IntKind.u64.wrap (k * Y)) = r0 := by
                simp only [IntKind.wrap_u64]; exact c4
              clear c4
              go_wp2_with fail
              go_ret2
              exact ⟨by rw [← C8.out]; rfl, rfl⟩
            · clear hL
              go_wp2_with fail
              exact ⟨⟨k, r + y1, rfl, rfl, by omega, by omega, by omega, by omega, hdn⟩, by simp [intOf]; omega⟩
          · obtain ⟨m, hm⟩ : ∃ m : Int, q * y0 = m := ⟨_, rfl⟩
            have hm0 : 0 ≤ m := by rw [← hm]; exact Int.mul_nonneg hq0 b30
            have hm2 : m < 18446744073709551616 := by
              have := Int.mul_le_mul (show q ≤ 4294967295 by omega) (show y0 ≤ 4294967295 by omega) b30 (by omega)
              omega
            by_cases ht : 4294967296 * r + l0 < m
            · have hb := hL.test (by rw [hm]; exact ht)
              have hdn := hL.down hb
              have hpos := LR.pos a1 b70 b30 (by omega) hb
              clear hb
              obtain ⟨k, hk⟩ : ∃ k, q - 1 = k := ⟨_, rfl⟩
              rw [hk] at hdn
              by_cases hrr : 4294967296 ≤ r + y1
              · have hD := hdn.out b70 b30 b3 (by omega) hrr
                rw [← HY.out] at hD
                clear hdn
                obtain ⟨r0, c1, c2, c3, c4⟩ := hD.rest b4
                have c5 := hD.small b40 b7 (by omega)
                have c6 := hD.nonneg (by omega) b70 b40
                have C3 := Lib.hid c3
                clear c3
                have C7 := HR.out _ _ _ _ a0 a1 c6 c1 A3.out C3.out c2
                have C8 := Lib.hid C7
                clear C7
                have c9 : IntKind.u64.wrap (IntKind.u64.wrap (IntKind.u64.wrap (v * 4294967296) + l0) - IntKind.u64.wrap (k * Y)) = r0 := by
                  simp only [IntKind.wrap_u64]; exact c4
                clear c4
                go_wp2_with fail
                go_ret2
                exact ⟨by rw [← C8.out]; rfl, rfl⟩
              · clear hL
                go_wp2_with fail
                exact ⟨⟨k, r + y1, rfl, rfl, by omega, by omega, by omega, by omega, hdn⟩, by simp [intOf]; omega⟩
            · have hD := hL.low (by rw [hm]; omega)
              rw [← HY.out] at hD
              obtain ⟨r0, c1, c2, c3, c4⟩ := hD.rest b4
              have c5 := hD.small b40 b7 (by omega)
              have c6 := hD.nonneg (by omega) b70 b40
              have C3 := Lib.hid c3
              clear c3
              have C7 := HR.out _ _ _ _ a0 a1 c6 c1 A3.out C3.out c2
              have C8 := Lib.hid C7
              clear C7
              have c9 : IntKind.u64.wrap (IntKind.u64.wrap (IntKind.u64.wrap (v * 4294967296) + l0) - IntKind.u64.wrap (q * Y)) = r0 := by
                simp only [IntKind.wrap_u64]; exact c4
              clear c4
              go_wp2_with fail
              go_ret2
              exact ⟨by rw [← C8.out]; rfl, rfl⟩

theorem mask (a : Nat) (ha : a < 18446744073709551616) : bits .and .u64 (a : Int) 4294967295 = ((a % 4294967296 : Nat) : Int) := by
  have h := bits_and_u64_nat a 4294967295 ha (by omega)
  have e : a &&& 4294967295 = a % 4294967296 := Nat.and_two_pow_sub_one_eq_mod a 32
  rw [e] at h
  exact h

theorem cast_mul_pow (a s : Nat) : (a : Int) * 2 ^ s = ((a * 2 ^ s : Nat) : Int) := by rw [Int.natCast_mul, Int.natCast_pow]; rfl

theorem div_big (hi lo y : Nat) (w : World) (h0 : 0 < hi) (h1 : hi < y) (h2 : y < 18446744073709551616) (h3 : lo < 18446744073709551616) :
    Calls Try.prog 41 #[.int .u64 hi, .int .u64 lo, .int .u64 y] w fun e w' => e = .returned (.tuple #[.int .u64 (((hi * 18446744073709551616 + lo) / y : Nat) : Int), .int .u64 (((hi * 18446744073709551616 + lo) % y : Nat) : Int)]) ∧ w = w' := by
  obtain ⟨k, ek, lk, tk⟩ := bitLen_bounds y (by omega) h2
  have lz : ∃ s : Nat, s ≤ 63 ∧ 9223372036854775808 ≤ y * 2 ^ s ∧ y * 2 ^ s < 18446744073709551616 ∧ ∀ w, Calls Try.prog 44 #[.int .u64 y] w fun e w' => e = .returned (.int .i64 s) ∧ w = w' := by
    have hk : k ≤ 63 := by
      apply Nat.le_of_not_lt
      intro hk
      have := Nat.pow_le_pow_right (show 0 < 2 by decide) (show 64 ≤ k from hk)
      omega
    refine ⟨63 - k, by omega, ?_, ?_, fun w => ?_⟩
    · have := Nat.mul_le_mul_right (2 ^ (63 - k)) lk
      rw [← Nat.pow_add, show k + (63 - k) = 63 by omega] at this
      exact this
    · have := Nat.mul_lt_mul_of_pos_right tk (Nat.two_pow_pos (63 - k))
      rw [← Nat.pow_add, show k + 1 + (63 - k) = 64 by omega] at this
      exact this
    · refine (Try.bits_LeadingZeros64 y w (by omega) (by omega)).mono ?_
      rintro e w' ⟨rfl, rfl⟩
      refine ⟨?_, rfl⟩
      rw [Int.toNat_natCast, ek]
      congr 2
      omega
  obtain ⟨s, hs, hlo, hhi, hlz⟩ := lz
  clear ek lk tk
  obtain ⟨n1, n2, n3, n4⟩ := norm hs h3 h1 hhi
  have hT : 0 < 2 ^ s := Nat.two_pow_pos s
  have eY : IntKind.u64.wrap ((y : Int) * 2 ^ s) = ((y * 2 ^ s : Nat) : Int) := by
    rw [cast_mul_pow, IntKind.wrap_u64]
    clear n3 n4
    generalize y * 2 ^ s = n at *
    omega
  have ehi : IntKind.u64.wrap ((hi : Int) * 2 ^ s) = ((hi * 2 ^ s : Nat) : Int) := by
    rw [cast_mul_pow, IntKind.wrap_u64]
    clear n3 n4
    generalize hi * 2 ^ s = n at *
    omega
  have el : IntKind.u64.wrap ((lo : Int) * 2 ^ s) = ((lo * 2 ^ s % 18446744073709551616 : Nat) : Int) := by
    rw [cast_mul_pow, IntKind.wrap_u64]
    generalize lo * 2 ^ s = n at *
    omega
  have elo : (lo : Int) / 2 ^ (64 - s) = ((lo / 2 ^ (64 - s) : Nat) : Int) := by
    rw [Int.natCast_ediv, Int.natCast_pow]; rfl
  have eu : bits .or .u64 (IntKind.u64.wrap ((hi : Int) * 2 ^ s)) ((lo : Int) / 2 ^ (64 - s)) = ((hi * 2 ^ s + lo / 2 ^ (64 - s) : Nat) : Int) := by
    have c2 : ((2 : Int) ^ s) = ((2 ^ s : Nat) : Int) := by rw [Int.natCast_pow]; rfl
    rw [ehi, elo, bits_join .u64 64 (by decide) (fun n a b => by rw [IntKind.wrap_u64]; exact Int.emod_eq_of_lt a b) s _ _ (Int.natCast_nonneg _) ?_ ?_ (Int.natCast_nonneg _) ?_ ?_, Int.natCast_add]
    · rw [c2, ← Int.natCast_emod, Nat.mul_mod_left]; rfl
    · clear n3 n4
      generalize hi * 2 ^ s = n at *
      show (n : Int) < 18446744073709551616
      omega
    · rw [c2]; exact Int.ofNat_lt.2 n2
    · show ((lo / 2 ^ (64 - s) : Nat) : Int) < 18446744073709551616
      have := Nat.div_le_self lo (2 ^ (64 - s))
      generalize lo / 2 ^ (64 - s) = n at *
      omega
  have ml : lo * 2 ^ s % 18446744073709551616 < 18446744073709551616 := Nat.mod_lt _ (by decide)
  generalize hYn : y * 2 ^ s = Y at *
  generalize lo * 2 ^ s % 18446744073709551616 = l at *
  generalize hun : hi * 2 ^ s + lo / 2 ^ (64 - s) = u at *
  obtain ⟨d1, d2, d3, d4⟩ := LR.start (u := (u : Int)) (d := (l : Int) / 4294967296) (y1 := (Y : Int) / 4294967296) (y0 := ((Y % 4294967296 : Nat) : Int)) (by omega) (by omega) (by omega) (by omega) (by omega) (by omega)
  refine (div_core (hi : Int) lo y Y ((Y : Int) / 4294967296) ((Y % 4294967296 : Nat) : Int) u l ((l : Int) / 4294967296) ((l % 4294967296 : Nat) : Int) _ _ s w (by omega) (by omega) (by omega) (by omega) (by omega) (Lib.hid hlz) hs eY rfl (mask Y hhi) eu el rfl (mask l ml) rfl rfl
    (by omega) (by omega) (by omega) (by omega) (by omega) (by omega) (by omega) (by omega) (by omega) (by omega) (by omega) (by omega) d4 d1.qle (Int.mul_nonneg d4 (by omega)) d2 (by omega) d1 (Lib.hid (by omega))
    (((((hi * 18446744073709551616 + lo) / y : Nat) : Int)), (((hi * 18446744073709551616 + lo) % y : Nat) : Int)) (Lib.hid ?_))
  intro q1 v q0 r0 p1 p2 p3 p4 e1 e0 hr
  obtain ⟨q1, rfl⟩ := Int.eq_ofNat_of_zero_le p1
  obtain ⟨v, rfl⟩ := Int.eq_ofNat_of_zero_le p2
  obtain ⟨q0, rfl⟩ := Int.eq_ofNat_of_zero_le p3
  obtain ⟨r0, rfl⟩ := Int.eq_ofNat_of_zero_le p4
  rw [← Int.natCast_mul] at e1 e0
  obtain ⟨k1, k2⟩ := knuth_end (u := u) (l1 := l / 4294967296) (l0 := l % 4294967296) (Y := Y) (q1 := q1) (q0 := q0) (v := v) (r0 := r0) (M := hi * 18446744073709551616 + lo) (T := 2 ^ s) (y := y) hT (by omega) hYn (by rw [n4]; omega) (by omega) (by omega) (by omega)
  rw [← k1, ← k2]
  refine Prod.ext ?_ ?_
  · simp only []; omega
  · simp only [Int.natCast_ediv, Int.natCast_pow]; rfl

theorem div_any (hi lo y : Nat) (w : World) (h1 : hi < y) (h2 : y < 18446744073709551616) (h3 : lo < 18446744073709551616) :
    Calls Try.prog 41 #[.int .u64 hi, .int .u64 lo, .int .u64 y] w fun e w' => e = .returned (.tuple #[.int .u64 (((hi * 18446744073709551616 + lo) / y : Nat) : Int), .int .u64 (((hi * 18446744073709551616 + lo) % y : Nat) : Int)]) ∧ Below w.heap.size w w' := by
  by_cases h : hi = 0
  · subst h
    rw [Nat.zero_mul, Nat.zero_add]
    exact div_small lo y w (by omega) h2 h3
  · refine (div_big hi lo y w (by omega) h1 h2 h3).mono ?_
    rintro e w' ⟨he, rfl⟩
    exact ⟨he, Below.refl _ _⟩
end Go.Proofs.Ytnooneejidpdaaa
