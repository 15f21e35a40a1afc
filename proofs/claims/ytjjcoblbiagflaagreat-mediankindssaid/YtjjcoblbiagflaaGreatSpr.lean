/- What Spread answers of small numbers: two of which none is greater than the least, none less than the greatest. -/
import Derived.Test.YtjjcoblbiagflaaGreatAlive
import Derived.WalkSpells
namespace Go.Proofs.YtjjcoblbiagflaaGreat
open Go.RowKit

set_option maxRecDepth 100000 in
theorem min16 {w : World} {g o c n : Nat} (f : Nat → Int) (h0 : 0 < n) (hb : n ≤ 1000000) (hc : ∀ j, j < n → w.cell? ⟨g, o + j, none⟩ = some (.int .i16 (f j))) (hr : ∀ j, j < n → -32768 ≤ f j ∧ f j ≤ 32767) :
    Calls Tryz.prog 14 #[.slice (some ⟨g, o, none⟩) n c] w fun e w' => (∃ m, e = .returned (.int .i16 m) ∧ (-32768 ≤ m ∧ m ≤ 32767) ∧ ∀ j, j < n → m ≤ f j) ∧ w = w' := by
  have f0 := hc 0 h0
  rw [Nat.add_zero] at f0
  obtain ⟨x0, hx0⟩ : ∃ x, f 0 = x := ⟨_, rfl⟩
  rw [hx0] at f0
  have HC := Lib.hid hc
  have HX := Lib.hid hx0
  have HR := Lib.hid hr
  have hr0 : -32768 ≤ x0 ∧ x0 ≤ 32767 := by rw [← hx0]; exact hr 0 h0
  clear hc hx0 hr
  have hd0 : decide ((n : Int) < 1) = false := decide_eq_false (by omega)
  go_enter Tryz.func14, Tryz.ntmps14
  go_wp2
  go_loopw [3, 4] (fun v3 v4 wr => ∃ (m : Int) (i : Nat), v3 = .int .i16 m ∧ v4 = .int .i64 (i : Int) ∧ (-32768 ≤ m ∧ m ≤ 32767) ∧ 1 ≤ i ∧ i ≤ n ∧ Hid (∀ j, j < i → m ≤ f j) ∧ wr = w) (fun _ s4 _ => n - (intOf s4).toNat)
  case atStart => exact ⟨x0, 1, rfl, by go_num, hr0, by omega, by omega, Lib.hid (fun j hj => by rw [show j = 0 by omega, HX.out]; exact Int.le_refl _), rfl⟩
  case round =>
    obtain ⟨m, i, rfl, rfl, hm, hi1, hi2, HM, rfl⟩ := hrel
    by_cases hin : i < n
    · have f1 := HC.out i hin
      obtain ⟨x, hx⟩ : ∃ x, f i = x := ⟨_, rfl⟩
      rw [hx] at f1
      have H1 := Lib.hid hx
      have hrx : -32768 ≤ x ∧ x ≤ 32767 := by rw [← hx]; exact HR.out i hin
      have hd1 : decide ((i : Int) < (n : Int)) = true := decide_eq_true (by omega)
      clear hx
      go_wp2
      go_roundw
      case rel => exact ⟨_, i + 1, rfl, by go_num, by omega, by omega, by omega, Lib.hid (fun j hj => by
        rcases Nat.lt_or_ge j i with h | h
        · have := HM.out j h; omega
        · rw [show j = i by omega, H1.out]; omega), trivial⟩
      case measure => simp [intOf]; omega
    · have hd1 : decide ((i : Int) < (n : Int)) = false := decide_eq_false (by omega)
      have e : i = n := by omega
      subst e
      go_wp2
      go_ret
      exact ⟨⟨m, rfl, hm, HM.out⟩, rfl⟩
set_option maxRecDepth 100000 in
theorem max16 {w : World} {g o c n : Nat} (f : Nat → Int) (h0 : 0 < n) (hb : n ≤ 1000000) (hc : ∀ j, j < n → w.cell? ⟨g, o + j, none⟩ = some (.int .i16 (f j))) (hr : ∀ j, j < n → -32768 ≤ f j ∧ f j ≤ 32767) :
    Calls Tryz.prog 15 #[.slice (some ⟨g, o, none⟩) n c] w fun e w' => (∃ m, e = .returned (.int .i16 m) ∧ (-32768 ≤ m ∧ m ≤ 32767) ∧ ∀ j, j < n → f j ≤ m) ∧ w = w' := by
  have f0 := hc 0 h0
  rw [Nat.add_zero] at f0
  obtain ⟨x0, hx0⟩ : ∃ x, f 0 = x := ⟨_, rfl⟩
  rw [hx0] at f0
  have HC := Lib.hid hc
  have HX := Lib.hid hx0
  have HR := Lib.hid hr
  have hr0 : -32768 ≤ x0 ∧ x0 ≤ 32767 := by rw [← hx0]; exact hr 0 h0
  clear hc hx0 hr
  have hd0 : decide ((n : Int) < 1) = false := decide_eq_false (by omega)
  go_enter Tryz.func15, Tryz.ntmps15
  go_wp2
  go_loopw [3, 4] (fun v3 v4 wr => ∃ (m : Int) (i : Nat), v3 = .int .i16 m ∧ v4 = .int .i64 (i : Int) ∧ (-32768 ≤ m ∧ m ≤ 32767) ∧ 1 ≤ i ∧ i ≤ n ∧ Hid (∀ j, j < i → f j ≤ m) ∧ wr = w) (fun _ s4 _ => n - (intOf s4).toNat)
  case atStart => exact ⟨x0, 1, rfl, by go_num, hr0, by omega, by omega, Lib.hid (fun j hj => by rw [show j = 0 by omega, HX.out]; exact Int.le_refl _), rfl⟩
  case round =>
    obtain ⟨m, i, rfl, rfl, hm, hi1, hi2, HM, rfl⟩ := hrel
    by_cases hin : i < n
    · have f1 := HC.out i hin
      obtain ⟨x, hx⟩ : ∃ x, f i = x := ⟨_, rfl⟩
      rw [hx] at f1
      have H1 := Lib.hid hx
      have hrx : -32768 ≤ x ∧ x ≤ 32767 := by rw [← hx]; exact HR.out i hin
      have hd1 : decide ((i : Int) < (n : Int)) = true := decide_eq_true (by omega)
      clear hx
      go_wp2
      go_roundw
      case rel => exact ⟨_, i + 1, rfl, by go_num, by omega, by omega, by omega, Lib.hid (fun j hj => by
        rcases Nat.lt_or_ge j i with h | h
        · have := HM.out j h; omega
        · rw [show j = i by omega, H1.out]; omega), trivial⟩
      case measure => simp [intOf]; omega
    · have hd1 : decide ((i : Int) < (n : Int)) = false := decide_eq_false (by omega)
      have e : i = n := by omega
      subst e
      go_wp2
      go_ret
      exact ⟨⟨m, rfl, hm, HM.out⟩, rfl⟩

set_option maxRecDepth 100000 in
theorem spread16 {w : World} {g o c n : Nat} (f : Nat → Int) (h0 : 0 < n) (hb : n ≤ 1000000) (hc : ∀ j, j < n → w.cell? ⟨g, o + j, none⟩ = some (.int .i16 (f j))) (hr : ∀ j, j < n → -32768 ≤ f j ∧ f j ≤ 32767) :
    Calls Tryz.prog 8 #[.slice (some ⟨g, o, none⟩) n c] w fun e w' => (∃ lo hi, e = .returned (.tuple #[.int .i16 lo, .int .i16 hi, .int .i64 0]) ∧ (-32768 ≤ lo ∧ lo ≤ 32767) ∧ (-32768 ≤ hi ∧ hi ≤ 32767) ∧ ∀ j, j < n → lo ≤ f j ∧ f j ≤ hi) ∧ w = w' := by
  have K1 := Lib.hid (min16 (c := c) f h0 hb hc hr)
  have K2 := Lib.hid (max16 (c := c) f h0 hb hc hr)
  clear hc hr
  go_enter Tryz.func8, Tryz.ntmps8
  go_wp2_with fail
  refine K1.out.mono ?_
  rintro e w' ⟨⟨lo, rfl, r1, h1⟩, rfl⟩
  have H1 := Lib.hid h1
  clear h1 K1
  go_wp2_with fail
  refine K2.out.mono ?_
  rintro e w' ⟨⟨hi, rfl, r2, h2⟩, rfl⟩
  have H2 := Lib.hid h2
  clear h2 K2
  go_wp2
  exact bodyPost_ret (v := .tuple #[.int .i16 lo, .int .i16 hi, .int .i64 0]) (by simp [results, Tryz.results8, go_sem]) rfl ⟨⟨lo, hi, rfl, r1, r2, fun j hj => ⟨H1.out j hj, H2.out j hj⟩⟩, rfl⟩
theorem spread16_none (w : World) (Ad : Option Addr) (c : Nat) : Calls Tryz.prog 8 #[.slice Ad 0 c] w fun e w' => e = .returned (.tuple #[.int .i16 0, .int .i16 0, .int .i64 4]) ∧ w = w' := by
  go_enter Tryz.func8, Tryz.ntmps8
  go_wp2
  exact bodyPost_ret (v := .tuple #[.int .i16 0, .int .i16 0, .int .i64 4]) (by simp [results, Tryz.results8, go_sem]) rfl ⟨rfl, rfl⟩
end Go.Proofs.YtjjcoblbiagflaaGreat
