/- Refused: the sum of all numbers but the first. -/
import Derived.Test.YtfhpckglckcdjaaDoorAdd
import Derived.Lib.SmallJoins
namespace Go.Proofs.YtfhpckglckcdjaaDoor
open Go.RowKit Go.Proofs.Lx

def restN (N : List Nat) (i : Nat) : Nat := ((N.take i).drop 1).sum
theorem rest_zero (N : List Nat) : restN N 0 = 0 := rfl
theorem rest_one (N : List Nat) : restN N 1 = 0 := by cases N <;> rfl
theorem rest_succ (N : List Nat) (i : Nat) (h : i < N.length) (h0 : 0 < i) : restN N (i + 1) = restN N i + N.getD i 0 := by
  unfold restN
  rw [take_snoc N i h, List.drop_append_of_le_length (by rw [List.length_take]; omega), List.sum_append]
  simp
theorem sum_take : ∀ (N : List Nat) (i : Nat), (N.take i).sum ≤ N.sum
  | [], i => by simp
  | n :: N, 0 => by simp
  | n :: N, i + 1 => by have := sum_take N i; simp; omega
theorem sum_drop : ∀ (N : List Nat) (i : Nat), (N.drop i).sum ≤ N.sum
  | [], i => by simp
  | n :: N, 0 => by simp
  | n :: N, i + 1 => by have := sum_drop N i; simp; omega
theorem rest_le (N : List Nat) (i : Nat) : restN N i ≤ N.sum := Nat.le_trans (sum_drop _ _) (sum_take _ _)
/-- The sum of all but the first. -/
def refN (N : List Nat) : Nat := restN N 13
theorem ref_and (N : List Nat) (h : N.length = 13) : refN N + N.getD 0 0 = N.sum := by
  unfold refN restN
  rw [List.take_of_length_le (by omega)]
  cases N with
  | nil => simp at h
  | cons n N => simp; omega
theorem wrap_sum {a b : Nat} (h : a + b ≤ 1000000000000) : IntKind.i64.wrap ((a : Int) + b) = ((a + b : Nat) : Int) := by
  rw [IntKind.wrap_i64]; omega

set_option maxRecDepth 100000 in
set_option maxHeartbeats 2000000 in
theorem refused_any (P : Option Addr) (N : List Nat) (w : World) (hN : Fit N) (h : Cs w P N) : Calls Tryd.prog 11 #[.pointer P] w fun e w' => e = .returned (.int .i64 (refN N : Nat)) ∧ Below w.heap.size w w' := by
  have KA := Lib.hid (all_any P N w hN.len h)
  have hX : ∀ i : Nat, i < 13 → ∀ w, (Instr.index 45 (.agg (cellsN N)) (.int .i64 (i : Int))).run Tryd.prog w = .ok (.int .i64 (N.getD i 0 : Nat)) w := fun i hi w => run_index_cells w 45 3 13 Tryd.underlying45 Tryd.underlying3 size3 N hN.len i hi .i64 _ rfl
  have HX := Lib.hid hX
  have HR := Lib.hid (show ∀ i, 0 < i → i < 13 → restN N (i + 1) = restN N i + N.getD i 0 from fun i h0 hi => rest_succ N i (by rw [hN.len]; exact hi) h0)
  have HS := Lib.hid (show ∀ i, restN N i ≤ 1000000000000 from fun i => Nat.le_trans (rest_le N i) hN.sum)
  obtain ⟨cs, hcs⟩ : ∃ cs, cs = cellsN N := ⟨_, rfl⟩
  rw [← hcs] at HX KA
  clear h hX hcs
  go_enter Tryd.func11, Tryd.ntmps11
  go_wp2_with fail
  refine KA.out.mono ?_
  rintro e w1 ⟨rfl, hb⟩
  have HB := Lib.hid hb
  clear hb KA
  go_wp2
  go_loopw [3, 8] (fun s i wr => ∃ k : Nat, k ≤ 13 ∧ i = .int .i64 k ∧ s = .int .i64 (restN N k : Nat) ∧ wr = w1) (fun _ i _ => 13 - (intOf i).toNat)
  case atStart => exact ⟨0, by omega, rfl, rfl, rfl⟩
  case round =>
    obtain ⟨k, hk, rfl, rfl, rfl⟩ := hrel
    by_cases hk13 : k < 13
    · have x1 := HX.out k hk13
      have hk1 : (k : Int) < 13 := by omega
      by_cases hk0 : k = 0
      · subst hk0
        obtain ⟨n, hn⟩ : ∃ n, n = N.getD 0 0 := ⟨_, rfl⟩
        rw [← hn] at x1
        have x1 : ∀ w, (Instr.index 45 (.agg cs) (.int .i64 0)).run Tryd.prog w = .ok (.int .i64 n) w := x1
        go_wp2
        go_roundw
        case rel => exact ⟨1, by omega, rfl, by rw [rest_zero, rest_one], trivial⟩
        case measure => simp [intOf]
      · have h0 : 0 < k := by omega
        have hr := HR.out k h0 hk13
        have hs := HS.out (k + 1)
        have hd : ((k : Int) != 0) = true := by simp; omega
        obtain ⟨n, hn⟩ : ∃ n, n = N.getD k 0 := ⟨_, rfl⟩
        rw [← hn] at x1 hr
        obtain ⟨r, hrr⟩ : ∃ r, r = restN N k := ⟨_, rfl⟩
        rw [hr, ← hrr] at hs
        rw [← hrr] at hr
        have hw := wrap_sum hs
        rw [← hrr]
        have HRR := Lib.hid hr
        clear hr hrr hs hn
        go_wp2
        go_roundw
        case rel => exact ⟨k + 1, by omega, by go_num, by rw [HRR.out]; rfl, trivial⟩
        case measure => simp [intOf]; omega
    · obtain rfl : k = 13 := by omega
      go_wp2
      go_ret
      exact ⟨rfl, HB.out⟩
end Go.Proofs.YtfhpckglckcdjaaDoor
