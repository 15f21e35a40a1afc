/- The document's own New and Next. -/
import Derived.Test.YtfckikehphmdjaaBk
namespace Go.Proofs.Ytfckikehphmdjaa
open Go.RowKit

set_option maxHeartbeats 1000000 in
theorem rnext_any (a b : Int) (w : World) (a1 : -9223372036854775808 ≤ a) (a2 : a ≤ 9223372036854775807) (b1 : -9223372036854775808 ≤ b) (b2 : b ≤ 9223372036854775807) :
    Calls Try.prog 15 #[.int .i64 a, .int .i64 b] w fun e w' => e = .returned (.int .i64 (nx a b)) ∧ w = w' := by
  by_cases h1 : a < 0
  · have t1 : decide (a < 0) = true := decide_eq_true h1
    rw [show nx a b = 0 from if_pos (by omega)]
    go_enter Try.func15, Try.ntmps15
    go_wp2
    go_ret
    exact ⟨rfl, rfl⟩
  have t1 : decide (a < 0) = false := decide_eq_false h1
  by_cases h3 : b < 0
  · have t3 : decide (b < 0) = true := decide_eq_true h3
    rw [show nx a b = 0 from if_pos (by omega)]
    go_enter Try.func15, Try.ntmps15
    go_wp2
    go_ret
    exact ⟨rfl, rfl⟩
  have t3 : decide (b < 0) = false := decide_eq_false h3
  by_cases h2 : 1073741824 < a
  · have t2 : decide (1073741824 < a) = true := decide_eq_true h2
    rw [show nx a b = 0 from if_pos (by omega)]
    go_enter Try.func15, Try.ntmps15
    go_wp2
    go_ret
    exact ⟨rfl, rfl⟩
  have t2 : decide (1073741824 < a) = false := decide_eq_false h2
  by_cases h4 : 1073741824 < b
  · have t4 : decide (1073741824 < b) = true := decide_eq_true h4
    rw [show nx a b = 0 from if_pos (by omega)]
    go_enter Try.func15, Try.ntmps15
    go_wp2
    go_ret
    exact ⟨rfl, rfl⟩
  have t4 : decide (1073741824 < b) = false := decide_eq_false h4
  rw [nx_in (by omega) (by omega) (by omega) (by omega)]
  by_cases h5 : 2 * a < b
  · rw [if_neg (by omega)]
    go_enter Try.func15, Try.ntmps15
    go_wp2
    go_ret
    exact ⟨rfl, rfl⟩
  · rw [show (if b < 2 * a then b else 2 * a) = b by split <;> omega]
    go_enter Try.func15, Try.ntmps15
    go_wp2
    go_ret
    exact ⟨rfl, rfl⟩
set_option maxHeartbeats 1000000 in
theorem rnew_any (x y : Int) (w : World) : Calls Try.prog 9 #[.int .i64 x, .int .i64 y] w fun e w' => e = .returned (.int .i64 (newE x y)) ∧ w = w' := by
  unfold newE may
  by_cases h1 : x < 4
  · have t1 : decide (x < 4) = true := decide_eq_true h1
    rw [if_pos (by simp; omega)]
    go_enter Try.func9, Try.ntmps9
    go_wp2
    go_ret
    exact ⟨rfl, rfl⟩
  have t1 : decide (x < 4) = false := decide_eq_false h1
  by_cases h2 : 1024 < x
  · have t2 : decide (1024 < x) = true := decide_eq_true h2
    rw [if_pos (by simp; omega)]
    go_enter Try.func9, Try.ntmps9
    go_wp2
    go_ret
    exact ⟨rfl, rfl⟩
  have t2 : decide (1024 < x) = false := decide_eq_false h2
  by_cases h3 : y < 4
  · have t3 : decide (y < 4) = true := decide_eq_true h3
    rw [if_pos (by simp; omega)]
    go_enter Try.func9, Try.ntmps9
    go_wp2
    go_ret
    exact ⟨rfl, rfl⟩
  have t3 : decide (y < 4) = false := decide_eq_false h3
  by_cases h4 : 1024 < y
  · have t4 : decide (1024 < y) = true := decide_eq_true h4
    rw [if_pos (by simp; omega)]
    go_enter Try.func9, Try.ntmps9
    go_wp2
    go_ret
    exact ⟨rfl, rfl⟩
  have t4 : decide (1024 < y) = false := decide_eq_false h4
  rw [if_neg (by simp; omega)]
  by_cases h5 : y < x
  · rw [if_pos h5]
    go_enter Try.func9, Try.ntmps9
    go_wp2
    go_ret
    exact ⟨rfl, rfl⟩
  · rw [if_neg h5]
    go_enter Try.func9, Try.ntmps9
    go_wp2
    go_ret
    exact ⟨rfl, rfl⟩
end Go.Proofs.Ytfckikehphmdjaa
