/- The document's own New and Next. -/
import Derived.Test.YtfknefpfekjnnaaBk
namespace Go.Proofs.Ytfknefpfekjnnaa
open Go.RowKit

set_option maxHeartbeats 1000000 in
theorem rnext_any (a b : Int) (w : World) (a1 : -9223372036854775808 ≤ a) (a2 : a ≤ 9223372036854775807) (b1 : -9223372036854775808 ≤ b) (b2 : b ≤ 9223372036854775807) :
    Calls Try.prog 39 #[.int .i64 a, .int .i64 b] w fun e w' => e = .returned (.int .i64 (nx a b)) ∧ w = w' := by
  by_cases h1 : a < 0
  · have t1 : decide (a < 0) = true := decide_eq_true h1
    rw [show nx a b = 0 from if_pos (by omega)]
    go_enter Try.func39, Try.ntmps39
    go_wp2
    go_ret
    exact ⟨rfl, rfl⟩
  have t1 : decide (a < 0) = false := decide_eq_false h1
  by_cases h3 : b < 0
  · have t3 : decide (b < 0) = true := decide_eq_true h3
    rw [show nx a b = 0 from if_pos (by omega)]
    go_enter Try.func39, Try.ntmps39
    go_wp2
    go_ret
    exact ⟨rfl, rfl⟩
  have t3 : decide (b < 0) = false := decide_eq_false h3
  by_cases h2 : 1073741824 < a
  · have t2 : decide (1073741824 < a) = true := decide_eq_true h2
    rw [show nx a b = 0 from if_pos (by omega)]
    go_enter Try.func39, Try.ntmps39
    go_wp2
    go_ret
    exact ⟨rfl, rfl⟩
  have t2 : decide (1073741824 < a) = false := decide_eq_false h2
  by_cases h4 : 1073741824 < b
  · have t4 : decide (1073741824 < b) = true := decide_eq_true h4
    rw [show nx a b = 0 from if_pos (by omega)]
    go_enter Try.func39, Try.ntmps39
    go_wp2
    go_ret
    exact ⟨rfl, rfl⟩
  have t4 : decide (1073741824 < b) = false := decide_eq_false h4
  rw [nx_in (by omega) (by omega) (by omega) (by omega)]
  by_cases h5 : 2 * a < b
  · rw [if_neg (by omega)]
    go_enter Try.func39, Try.ntmps39
    go_wp2
    go_ret
    exact ⟨rfl, rfl⟩
  · rw [show (if b < 2 * a then b else 2 * a) = b by split <;> omega]
    go_enter Try.func39, Try.ntmps39
    go_wp2
    go_ret
    exact ⟨rfl, rfl⟩
end Go.Proofs.Ytfknefpfekjnnaa
