/- BackoffNexts' and BackoffNext's walks. -/
import Derived.Test.YtfckikehphmdjaaOpen
import Derived.Test.YtfckikehphmdjaaRef
namespace Go.Proofs.Ytfckikehphmdjaa
open Go.RowKit

set_option maxHeartbeats 1000000 in
theorem walk_nexts (x y : Int) (w : World) (x1 : -9223372036854775808 ≤ x) (x2 : x ≤ 9223372036854775807) (y1 : -9223372036854775808 ≤ y) (y2 : y ≤ 9223372036854775807) :
    Calls Try.prog 4 #[.int .i64 x, .int .i64 y] w fun e w' => e = .returned (.bool true) ∧ Below w.heap.size w w' := by
  have KA := Lib.hid (fun w => alive_any w)
  have K1 := Lib.hid (fun w => next_any x y w x1 x2 y1 y2)
  have K2 := Lib.hid (fun w => rnext_any x y w x1 x2 y1 y2)
  generalize nx x y = u at *
  clear x1 x2 y1 y2
  go_enter Try.func4, Try.ntmps4
  go_wp2_with fail
  refine (KA.out _).mono ?_
  rintro e w1 ⟨rfl, hb⟩
  have HB := Lib.hid hb
  clear hb
  go_wp2_with fail
  refine (K1.out _).mono ?_
  rintro e w2 ⟨rfl, rfl⟩
  go_wp2_with fail
  refine (K2.out _).mono ?_
  rintro e w2 ⟨rfl, rfl⟩
  go_wp2
  go_ret
  exact ⟨rfl, HB.out⟩

set_option maxHeartbeats 1000000 in
theorem walk_next (x y : Int) (w : World) (x1 : 0 ≤ x) (x2 : x ≤ 65535) (y1 : 0 ≤ y) (y2 : y ≤ 65535) :
    Calls Try.prog 6 #[.int .u16 x, .int .u16 y] w fun e w' => e = .returned (.bool true) ∧ Below w.heap.size w w' := by
  have KA := Lib.hid (fun w => alive_any w)
  have K1 := Lib.hid (fun w => next_any x y w (by omega) (by omega) (by omega) (by omega))
  obtain ⟨u, hu⟩ : ∃ u, u = nx x y := ⟨_, rfl⟩
  rw [← hu] at K1
  rw [nx_in (by omega) (by omega) (by omega) (by omega)] at hu
  have u1 : u ≤ y := by rw [hu]; split <;> omega
  have u2 : u ≤ 2 * x := by rw [hu]; split <;> omega
  have u3 : u ≠ y → u = 2 * x := by rw [hu]; split <;> omega
  have u4 : x ≤ y → x ≤ u := by rw [hu]; split <;> omega
  clear hu
  go_enter Try.func6, Try.ntmps6
  go_wp2_with fail
  refine (K1.out _).mono ?_
  rintro e w1 ⟨rfl, rfl⟩
  go_wp2_with fail
  refine (KA.out _).mono ?_
  rintro e w1 ⟨rfl, hb⟩
  have HB := Lib.hid hb
  clear hb KA K1
  by_cases h1 : u = y
  · have t1 : (u == y) = true := by simp [h1]
    by_cases h2 : y < x
    · have t2 : decide (y < x) = true := decide_eq_true h2
      clear u3 h1
      go_wp2
      go_ret
      exact ⟨rfl, HB.out⟩
    · have t2 : decide (y < x) = false := decide_eq_false h2
      have u5 := u4 (by omega)
      clear u3 h1 u4
      go_wp2
      go_ret
      exact ⟨rfl, HB.out⟩
  · have t1 : (u == y) = false := by simp [h1]
    have h3 := u3 h1
    have t3 : (u == 2 * x) = true := by simp [h3]
    by_cases h2 : y < x
    · have t2 : decide (y < x) = true := decide_eq_true h2
      clear u3 h1 h3
      go_wp2
      go_ret
      exact ⟨rfl, HB.out⟩
    · have t2 : decide (y < x) = false := decide_eq_false h2
      have u5 := u4 (by omega)
      clear u3 h1 u4 h3
      go_wp2
      go_ret
      exact ⟨rfl, HB.out⟩
end Go.Proofs.Ytfckikehphmdjaa
