/- Check, Same: the program's. -/
import Derived.Test.YtfknefpfekjnnaaCf
import Derived.Deep.QuietTactic
import Derived.BigQuiet
namespace Go.Proofs.Ytfknefpfekjnnaa
open Go.RowKit

theorem not_take_succ {x : Int} {xs : List Int} {k : Nat} (hk : k < xs.length) (h : x ∉ xs.take k) (hne : x ≠ xs[k]) : x ∉ xs.take (k + 1) := by
  intro hm
  rw [List.take_succ_eq_append_getElem hk] at hm
  rcases List.mem_append.1 hm with h1 | h1
  · exact h h1
  · exact hne (by simpa using h1)

set_option maxRecDepth 100000 in
set_option maxHeartbeats 4000000 in
theorem index_any (v : Value) (xs : List Int) (x : Int) (w : World) (h : Ints w v xs) (hl : xs.length ≤ 1000000) :
    Calls Try.prog 70 #[v, .int .i64 x] w fun e w' => ∃ r : Int, e = .returned (.int .i64 r) ∧ (0 ≤ r ↔ x ∈ xs) ∧ w = w' := by
  obtain ⟨A, c, rfl, hc⟩ := h.len
  have HI := Lib.hid h
  clear h
  obtain ⟨N, hN⟩ : ∃ N, N = xs.length := ⟨_, rfl⟩
  have HN := Lib.hid hN
  rw [← hN] at hl hc ⊢
  clear hN
  go_enter Try.func70, Try.ntmps70
  go_wp2
  go_loopw [8] (fun i wr => ∃ k : Nat, k ≤ N ∧ i = .int .i64 k ∧ Hid (x ∉ xs.take k) ∧ wr = w) (fun i _ => N - (intOf i).toNat)
  case atStart => exact ⟨0, Nat.zero_le _, rfl, (by simp : x ∉ xs.take 0), rfl⟩
  case round =>
    obtain ⟨k, hk, rfl, HX, rfl⟩ := hrel
    by_cases hkN : k < N
    · obtain ⟨g, o, rfl, hg, hcell⟩ := HI.out.at_ k (by have := HN.out; omega)
      have hkx : k < xs.length := by have := HN.out; omega
      have HNX := Lib.hid (not_take_succ hkx HX.out)
      have HME := Lib.hid (List.getElem_mem (l := xs) (n := k) hkx)
      obtain ⟨y, hy⟩ : ∃ y, y = xs[k] := ⟨_, rfl⟩
      rw [← hy] at hcell HNX HME
      clear hy hkx
      by_cases hxy : x = y
      · subst hxy
        go_wp2
        go_ret
        exact ⟨_, rfl, ⟨fun _ => HME.out, fun _ => by omega⟩, rfl⟩
      · have hne : (x == y) = false := by simp [hxy]
        go_wp2
        go_roundw
        case rel => exact ⟨k + 1, by omega, by go_num, HNX.out hxy, by trivial⟩
        case measure => simp [intOf]; omega
    · go_wp2
      go_ret
      have e : k = xs.length := by have := HN.out; omega
      have hx := HX.out
      rw [e, List.take_length] at hx
      exact ⟨_, rfl, ⟨fun h => by omega, fun h => absurd h hx⟩, rfl⟩

set_option maxHeartbeats 4000000 in
theorem contains_any (v : Value) (xs : List Int) (x : Int) (w : World) (h : Ints w v xs) (hl : xs.length ≤ 1000000) :
    Calls Try.prog 52 #[v, .int .i64 x] w fun e w' => e = .returned (.bool (decide (x ∈ xs))) ∧ w = w' := by
  have K := Lib.hid (index_any v xs x w h hl)
  clear h hl
  go_enter Try.func52, Try.ntmps52
  go_wp2_with (go_at_call 70; refine K.out.mono ?_; rintro e w1 ⟨r, rfl, hr, rfl⟩)
  go_ret
  refine ⟨?_, rfl⟩
  congr 2

def inB (lo n hi : Int) : Bool := decide (lo ≤ n ∧ n ≤ hi)
theorem inT {lo n hi : Int} (h : lo ≤ n ∧ n ≤ hi) : inB lo n hi = true := decide_eq_true h
theorem inF {lo n hi : Int} (h : ¬ (lo ≤ n ∧ n ≤ hi)) : inB lo n hi = false := decide_eq_false h
set_option maxHeartbeats 4000000 in
theorem within_any (n lo hi : Int) (w : World) :
    Calls Try.prog 51 #[.int .i64 n, .int .i64 lo, .int .i64 hi] w fun e w' => e = .returned (.bool (inB lo n hi)) ∧ w = w' := by
  unfold inB
  by_cases h : lo ≤ n
  · have h1 : decide (lo ≤ n) = true := by simp [h]
    go_enter Try.func51, Try.ntmps51
    go_wp2
    go_ret
    simp [h]
  · have h1 : decide (lo ≤ n) = false := by simp [h]
    go_enter Try.func51, Try.ntmps51
    go_wp2
    go_ret
    simp

def cmay (c : Cfg) : Bool := inB 1 c.q c.S.length && inB 4 c.l 1024 && inB c.l c.m 1024 && inB 1 c.d (1000 * c.l - 2000) && inB 1 c.s 500
theorem may_iff (c : Cfg) : cmay c = decide (numsOk c) := by
  unfold cmay numsOk inB
  rw [Bool.eq_iff_iff]
  simp only [Bool.and_eq_true, decide_eq_true_eq, and_assoc]

set_option maxRecDepth 100000 in
set_option maxHeartbeats 1000000 in
theorem maybe_any (v : Value) (c : Cfg) (w : World) (h : Ints w v c.S) :
    Calls Try.prog 53 #[cval v c] w fun e w' => e = .returned (.bool (cmay c)) ∧ Below w.heap.size w w' := by
  obtain ⟨A, cp, rfl, hc⟩ := h.len
  clear h
  have HB : ∀ o, Below w.heap.size w (w.alloc o) := fun o => (Below.refl _ _).alloc (Nat.le_refl _) _
  obtain ⟨S, q, l, m, d, s⟩ := c
  simp only at hc ⊢
  unfold cval cmay
  simp only
  obtain ⟨N, hN⟩ : ∃ N, N = S.length := ⟨_, rfl⟩
  rw [← hN]
  clear hN hc
  have K1 := Lib.hid (within_any q 1 N)
  have K2 := Lib.hid (within_any l 4 1024)
  have K3 := Lib.hid (within_any m l 1024)
  have K5 := Lib.hid (within_any s 1 500)
  cases d1 : inB 1 q N with
  | false =>
    go_enter Try.func53, Try.ntmps53
    go_wp2_with (go_at_call 51; refine (K1.out _).mono ?_; rintro e w1 ⟨rfl, rfl⟩)
    go_ret
    exact ⟨by simp, HB _⟩
  | true =>
    cases d2 : inB 4 l 1024 with
    | false =>
      go_enter Try.func53, Try.ntmps53
      go_wp2_with (first | (go_at_call 51; with_reducible refine (K1.out _).mono ?_; rintro e w1 ⟨rfl, rfl⟩) | (go_at_call 51; with_reducible refine (K2.out _).mono ?_; rintro e w1 ⟨rfl, rfl⟩))
      go_ret
      exact ⟨by simp, HB _⟩
    | true =>
      have hl : 4 ≤ l ∧ l ≤ 1024 := of_decide_eq_true d2
      cases d3 : inB l m 1024 with
      | false =>
        go_enter Try.func53, Try.ntmps53
        go_wp2_with (first | (go_at_call 51; with_reducible refine (K1.out _).mono ?_; rintro e w1 ⟨rfl, rfl⟩) | (go_at_call 51; with_reducible refine (K2.out _).mono ?_; rintro e w1 ⟨rfl, rfl⟩) | (go_at_call 51; with_reducible refine (K3.out _).mono ?_; rintro e w1 ⟨rfl, rfl⟩))
        go_ret
        exact ⟨by simp, HB _⟩
      | true =>
        obtain ⟨z, hz⟩ : ∃ z, z = 1000 * l - 2000 := ⟨_, rfl⟩
        have hw1 : IntKind.i64.wrap (1000 * l) = 1000 * l := IntWalk.i64_in _ (by omega)
        have hw2 : IntKind.i64.wrap (1000 * l - 2000) = z := (IntWalk.i64_in _ (by omega)).trans hz.symm
        rw [← hz]
        clear hz hl
        have K4 := Lib.hid (within_any d 1 z)
        cases d4 : inB 1 d z with
        | false =>
          go_enter Try.func53, Try.ntmps53
          go_wp2_with (first | (go_at_call 51; with_reducible refine (K1.out _).mono ?_; rintro e w1 ⟨rfl, rfl⟩) | (go_at_call 51; with_reducible refine (K2.out _).mono ?_; rintro e w1 ⟨rfl, rfl⟩) | (go_at_call 51; with_reducible refine (K3.out _).mono ?_; rintro e w1 ⟨rfl, rfl⟩) | (go_at_call 51; with_reducible refine (K4.out _).mono ?_; rintro e w1 ⟨rfl, rfl⟩))
          go_ret
          exact ⟨by simp, HB _⟩
        | true =>
          go_enter Try.func53, Try.ntmps53
          go_wp2_with (first | (go_at_call 51; with_reducible refine (K1.out _).mono ?_; rintro e w1 ⟨rfl, rfl⟩) | (go_at_call 51; with_reducible refine (K2.out _).mono ?_; rintro e w1 ⟨rfl, rfl⟩) | (go_at_call 51; with_reducible refine (K3.out _).mono ?_; rintro e w1 ⟨rfl, rfl⟩) | (go_at_call 51; with_reducible refine (K4.out _).mono ?_; rintro e w1 ⟨rfl, rfl⟩) | (go_at_call 51; with_reducible refine (K5.out _).mono ?_; rintro e w1 ⟨rfl, rfl⟩))
          go_ret
          exact ⟨by simp, HB _⟩
end Go.Proofs.Ytfknefpfekjnnaa
