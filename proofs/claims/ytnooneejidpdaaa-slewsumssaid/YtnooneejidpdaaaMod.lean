/- Remainders that keep their sign: no program in this text. -/
import Derived.Test.YtnooneejidpdaaaWalks
namespace Go.Proofs.Ytnooneejidpdaaa
open Go.RowKit

theorem tmod_bd (n m : Int) (hm : 0 < m) : -m < n.tmod m ∧ n.tmod m < m := by
  rcases Int.lt_or_le n 0 with h | h
  · have e := Int.neg_tmod (a := -n) (b := m)
    rw [Int.neg_neg, Int.tmod_eq_emod_of_nonneg (show 0 ≤ -n by omega)] at e
    have := Int.emod_lt_of_pos (-n) hm
    have := Int.emod_nonneg (-n) (show m ≠ 0 by omega)
    omega
  · rw [Int.tmod_eq_emod_of_nonneg h]
    have := Int.emod_lt_of_pos n hm
    have := Int.emod_nonneg n (show m ≠ 0 by omega)
    omega
theorem hard_bd (n : Int) : 0 ≤ wrap64 ((IntKind.u64.wrap n).tmod 2305843009213693952) ∧ wrap64 ((IntKind.u64.wrap n).tmod 2305843009213693952) ≤ 2305843009213693951 := by
  have h : 0 ≤ IntKind.u64.wrap n := by rw [IntKind.wrap_u64]; omega
  rw [Int.tmod_eq_emod_of_nonneg h, IntWalk.wrap64_in _ ⟨by omega, by omega⟩]
  omega
end Go.Proofs.Ytnooneejidpdaaa
