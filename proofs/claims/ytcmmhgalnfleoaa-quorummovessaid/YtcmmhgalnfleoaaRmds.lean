/- The document's Of and Rank. -/
import Derived.Test.YtcmmhgalnfleoaaRmd
namespace Go.Proofs.Ytcmmhgalnfleoaa
open Go.RowKit

theorem rof_any {w : World} {Ad : Option Addr} {c : Nat} (xs : List Int) (h0 : 0 < xs.length) (hb : xs.length ≤ 1000) (h : Lies w Ad (xs.map I)) :
    Calls Try.prog 20 #[.slice Ad xs.length c] w fun e w' => e = .returned (.tuple #[.int .i64 (mid xs), .int .i64 0]) ∧ Below w.heap.size w w' := by
  unfold mid
  obtain ⟨n, hn⟩ : ∃ n, n = xs.length := ⟨_, rfl⟩
  obtain ⟨k, hk⟩ : ∃ k : Nat, k = (n - 1) / 2 := ⟨_, rfl⟩
  have hkn : k < n := by omega
  have hq : (((n : Int) - 1) / 2) = (k : Int) := by omega
  have K := Lib.hid (rsorted_any (c0 := c) xs hb h)
  rw [← hn] at K hb h0 ⊢
  rw [← hk]
  have hx := map_getD I (xs.mergeSort leI) k 0 (by rw [List.length_mergeSort]; omega)
  generalize (xs.mergeSort leI).getD k 0 = m at hx ⊢
  have HX := Lib.hid hx
  clear h hk hn hx
  go_enter Try.func20, Try.ntmps20
  go_wp2_with fail
  refine K.out.mono ?_
  rintro e w1 ⟨v, rfl, ho, hb1⟩
  obtain ⟨g, cp, rfl, hcp, hcell⟩ := own_cell ho HX.out
  have HB := Lib.hid hb1
  clear K hb1 ho HX
  go_wp2
  go_ret2
  exact ⟨rfl, HB.out⟩
theorem rof_none (w : World) (Ad : Option Addr) (c : Nat) : Calls Try.prog 20 #[.slice Ad 0 c] w fun e w' => e = .returned (.tuple #[.int .i64 0, .int .i64 4]) ∧ w = w' := by
  go_enter Try.func20, Try.ntmps20
  go_wp2
  go_ret2
  exact ⟨rfl, rfl⟩
end Go.Proofs.Ytcmmhgalnfleoaa
