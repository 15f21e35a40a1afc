/- FreshLast's walk. -/
import Derived.Test.YtijknffgdedohaaAlive
import Derived.Test.YtijknffgdedohaaRef
namespace Go.Proofs.Ytijknffgdedohaa
open Go.RowKit

section
variable (delay at' : Int)
/-- What is added, one after another. -/
def one (i : Nat) : Sm := ⟨(i : Int), delay, at' + (i : Int), 0⟩
def ones (k : Nat) : List Sm := (List.range k).map (one delay at')
theorem ones_succ (k : Nat) : ones delay at' (k + 1) = ones delay at' k ++ [one delay at' k] := by simp [ones, List.range_succ]
theorem length_ones (k : Nat) : (ones delay at' k).length = k := by simp [ones]
theorem mem_ones {k : Nat} {p : Sm} (h : p ∈ ones delay at' k) : ∃ i, i < k ∧ p = one delay at' i := by
  simp only [ones, List.mem_map, List.mem_range] at h
  obtain ⟨i, hi, rfl⟩ := h
  exact ⟨i, hi, rfl⟩
theorem ones_in {k : Nat} (hk : k ≤ 20) (h1 : -9223372036854775808 ≤ delay) (h2 : delay ≤ 9223372036854775807) (h3 : 0 ≤ at') (h4 : at' ≤ 65535) : ∀ p ∈ ones delay at' k, p.In := by
  intro p hp
  obtain ⟨i, hi, rfl⟩ := mem_ones delay at' hp
  constructor <;> simp only [one] <;> omega
theorem ones_fresh {i : Nat} (hi : i < 20) : isFresh (at' + 100) 1000 (one delay at' i) = true := by
  have e : stp (at' + 100 - (at' + (i : Int))) = 100 - (i : Int) := by rw [stp_in (by omega) (by omega)]; omega
  show (decide (at' + (i : Int) ≤ at' + 100) && decide (stp (at' + 100 - (at' + (i : Int))) ≤ 1000)) = true
  rw [e]
  simp
  omega
theorem ones_best {k : Nat} (hk : k < 20) : bestOf (at' + 100) 1000 (last8 (ones delay at' (k + 1))) = some (one delay at' k) := by
  have hin : one delay at' k ∈ last8 (ones delay at' (k + 1)) := by
    rw [ones_succ, ← push8_last]
    unfold push8
    simp
  cases e : bestOf (at' + 100) 1000 (last8 (ones delay at' (k + 1))) with
  | none =>
    have := best_none e _ hin
    rw [ones_fresh delay at' hk] at this
    cases this
  | some y =>
    obtain ⟨m1, m2, m3⟩ := best_some e
    obtain ⟨i, hi, rfl⟩ := mem_ones delay at' (mem_last8 m1)
    have hb := m3 _ hin (ones_fresh delay at' hk)
    rw [better_not] at hb
    simp only [one] at hb
    have : i = k := by omega
    rw [this]
theorem ones_none : bestOf (at' + 100) 1000 (last8 (ones delay at' 0)) = none := by
  refine best_of_none fun q hq => ?_
  have := mem_last8 hq
  simp [ones] at this
end

set_option maxRecDepth 100000 in
set_option maxHeartbeats 8000000 in
theorem walk_last (n delay at' : Int) (w : World) (n1 : 0 ≤ n) (n2 : n ≤ 255) (d1 : -9223372036854775808 ≤ delay) (d2 : delay ≤ 9223372036854775807) (a1 : 0 ≤ at') (a2 : at' ≤ 65535) :
    Calls Try.prog 7 #[.int .u8 n, .int .i64 delay, .int .u16 at'] w fun e w' => e = .returned (.bool true) ∧ Below w.heap.size w w' := by
  go_enter Try.func7, Try.ntmps7
  go_wp2_with fail
  refine (snew_any w).mono ?_
  rintro e w1 ⟨rfl, hs1, hb1, _⟩
  obtain ⟨sb, hsb⟩ : ∃ sb, sb = w.heap.size + 1 := ⟨_, rfl⟩
  rw [← hsb] at hs1 ⊢
  have H1 := Lib.hid (And.intro hs1 hb1)
  clear hs1 hb1 hsb
  go_wp2_with fail
  refine (alive_any _).mono ?_
  rintro e w2 ⟨rfl, hb2⟩
  have H2 := Lib.hid (And.intro (H1.out.1.below hb2) (bel_trans H1.out.2 hb2))
  clear hb2 H1
  go_wp2_with fail
  obtain ⟨k, hk, hk20⟩ : ∃ k : Nat, n % 20 = (k : Int) ∧ k < 20 := ⟨(n % 20).toNat, by omega, by omega⟩
  rw [hk]
  clear hk
  go_loopw [25] (fun v25 wr => ∃ j : Nat, j ≤ k ∧ v25 = .int .i64 (j : Int) ∧ Hid (St wr w.heap.size sb j (last8 (ones delay at' j)) ∧ Below w.heap.size w wr)) (fun s _ => k - (intOf s).toNat)
  case atStart => exact ⟨0, Nat.zero_le _, rfl, Lib.hid H2.out⟩
  case round =>
    clear H2
    obtain ⟨j, hj, rfl, R⟩ := hrel
    by_cases hjk : j < k
    · go_wp2_with fail
      refine (sadd_any (j : Int) delay (at' + (j : Int)) 0 R.out.1 (by omega)).mono ?_
      rintro e w4 ⟨rfl, hs4, hb4⟩
      have R4 := Lib.hid (And.intro hs4 (R.out.2.trans hb4))
      clear hs4 hb4
      go_wp2
      refine ⟨⟨j + 1, by omega, by go_num, Lib.hid ⟨?_, R4.out.2⟩⟩, ?_⟩
      · have := R4.out.1
        rw [show (⟨(j : Int), delay, at' + (j : Int), 0⟩ : Sm) = one delay at' j from rfl, push8_last, ← ones_succ] at this
        exact this
      · simp [intOf]; omega
    · obtain rfl : j = k := by omega
      have BB := Lib.hid (best_any (some ⟨sb, 0, none⟩) (at' + 100) 1000 0 (last8 (ones delay at' j)) wr (by omega) (by omega) (by omega) (by omega) (fun p hp => ones_in delay at' (by omega) d1 d2 a1 a2 p (mem_last8 hp)) (.inr ⟨_, _, _, rfl, R.out.1⟩))
      by_cases hj0 : j = 0
      · subst hj0
        rw [ones_none] at BB
        simp only [bestSm, bestNow, Sm.val, Option.getD_none, Option.isSome_none, Sm.zero] at BB
        go_wp2_with fail
        refine BB.out.mono ?_
        rintro e w4 ⟨rfl, hb4⟩
        have R4 := Lib.hid (bel_trans R.out.2 hb4)
        clear hb4 BB
        go_wp2
        go_ret
        exact ⟨rfl, bel_trans R4.out ((Below.refl _ _).alloc (Nat.le_refl _) _)⟩
      · obtain ⟨i, rfl⟩ : ∃ i, j = i + 1 := ⟨j - 1, by omega⟩
        rw [ones_best delay at' (by omega)] at BB
        have e0 : nowOf (i : Int) 0 0 = (i : Int) := by unfold nowOf; rw [show stp (0 - 0) = 0 from rfl, stp_in (by omega) (by omega)]; omega
        simp only [bestSm, bestNow, Sm.val, Option.getD_some, Option.isSome_some, one, e0] at BB
        go_wp2_with fail
        refine BB.out.mono ?_
        rintro e w4 ⟨rfl, hb4⟩
        have R4 := Lib.hid (bel_trans R.out.2 hb4)
        clear hb4 BB
        go_wp2
        go_ret
        exact ⟨rfl, bel_trans R4.out ((Below.refl _ _).alloc (Nat.le_refl _) _)⟩
end Go.Proofs.Ytijknffgdedohaa
