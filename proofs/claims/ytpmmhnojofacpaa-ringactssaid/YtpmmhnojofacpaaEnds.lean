/- The end of a list; how many a ring keeps; the document's example. -/
import Derived.Test.YtpmmhnojofacpaaRint
namespace Go.Proofs.Ytpmmhnojofacpaa
open Go.RowKit

/-- The last m of a list. -/
def endOf {α : Type} (m : Nat) (l : List α) : List α := l.drop (l.length - m)
section
variable {α : Type}
theorem length_endOf (m : Nat) (l : List α) : (endOf m l).length = min l.length m := by unfold endOf; rw [List.length_drop]; omega
theorem endOf_nil (m : Nat) : endOf m ([] : List α) = [] := by simp [endOf]
theorem endOf_all {m : Nat} {l : List α} (h : l.length ≤ m) : endOf m l = l := by
  unfold endOf; rw [Nat.sub_eq_zero_of_le h]; rfl
/-- What Add makes of it. -/
theorem endOf_snoc {m : Nat} (h1 : 1 ≤ m) (l : List α) (x : α) : endOf m (l ++ [x]) = (if min l.length m = m then (endOf m l).drop 1 else endOf m l) ++ [x] := by
  unfold endOf
  by_cases h : m ≤ l.length
  · rw [if_pos (Nat.min_eq_right h), List.drop_drop, List.length_append, List.length_singleton, List.drop_append_of_le_length (by omega)]
    congr 2
    omega
  · rw [if_neg (by omega), List.length_append, List.length_singleton, Nat.sub_eq_zero_of_le (by omega), Nat.sub_eq_zero_of_le (by omega)]
    rfl
theorem endOf_get {m k : Nat} {l : List α} : (endOf m l)[k]? = l[l.length - min l.length m + k]? := by
  unfold endOf
  rw [List.getElem?_drop]
  congr 2
  omega
theorem endOf_last {m : Nat} (h1 : 1 ≤ m) (l : List α) (x : α) : (endOf m (l ++ [x]))[min (l.length + 1) m - 1]? = some x := by
  rw [endOf_get, List.length_append, List.length_singleton]
  rw [List.getElem?_append_right (by omega), show l.length + 1 - min (l.length + 1) m + (min (l.length + 1) m - 1) - l.length = 0 by omega]
  rfl
/-- A greater end holds a lesser one. -/
theorem endOf_endOf {a b k : Nat} (h : a ≤ b) (l : List α) : (endOf a l)[k]? = (endOf b l)[min l.length b - min l.length a + k]? := by
  rw [endOf_get, endOf_get]
  congr 1
  omega
theorem pushed_end {m : Nat} (h1 : 1 ≤ m) (f : α → Value) (l : List α) (x : α) : pushed m (min l.length m) 1 ((endOf m l).map f) [f x] = (endOf m (l ++ [x])).map f := by
  rw [endOf_snoc h1]
  unfold pushed
  split
  · simp
  · simp
end

/-- How many a ring of the statements keeps. -/
def mostOf (n : Int) : Nat := (1 + n % 64).toNat
theorem mostOf_in (n : Int) : 1 ≤ mostOf n ∧ mostOf n ≤ 64 := by unfold mostOf; omega
theorem most_any (n : Int) (w : World) : Calls Try.prog 9 #[.int .i64 n] w fun e w' => e = .returned (.int .i64 (mostOf n : Int)) ∧ w = w' := by
  have e : (mostOf n : Int) = 1 + n % 64 := by unfold mostOf; omega
  rw [e]
  go_enter Try.func9, Try.ntmps9
  go_wp2
  go_ret
  refine ⟨?_, rfl⟩
  have u0 : IntKind.u64.wrap n = n % 18446744073709551616 := by simp only [IntKind.wrap_u64]
  have u1 : (n % 18446744073709551616).tmod 64 = n % 64 := by rw [Int.tmod_eq_emod_of_nonneg (by omega)]; omega
  rw [u0, u1]
  have u2 : wrap64 (1 + wrap64 (n % 64)) = 1 + n % 64 := by
    unfold wrap64
    clear u0 u1 e
    omega
  rw [u2]
  rfl

section
variable {rT eT sz : Nat} {w w' : World} {base b m c n : Nat} {v v' : Value} {xs cs : List Value}
theorem Rg.below_two {r : Option Nat} (h : Rg rT eT sz w base b m c n v xs) (t : Two b r w w') (hr : ∀ p, r = some p → base ≤ p) : Below base w w' := t.below h.base_le h.own hr
theorem Added.below (a : Added rT eT sz w w' base b m c n v xs cs v') (h : Rg rT eT sz w base b m c n v xs) : Below base w w' := h.below_two a.two fun _ hp => (own_lt h.row hp).1
end

theorem add2_int {w : World} {base b c n : Nat} {v : Value} {xs : List Value} (z : Int) (ys : List Value) (k : Nat) (hk : min (n + 1) 2 = k) (hys : pushed 2 n 1 xs [.int .i64 z] = ys) (h : Rg_int w base b 2 c n v xs) (hc : c ≤ 1000000000) :
    Calls Try.prog 40 #[.pointer (some ⟨b, 0, none⟩), .int .i64 z] w fun e w' => e = .returned (.int .i64 0) ∧ (∃ v', Rg_int w' base b 2 (c + 1) k v' ys) ∧ Below base w w' := by
  refine (add_int z h (by omega) (by omega) hc).mono ?_
  rintro e w' ⟨rfl, v', a⟩
  subst hk hys
  exact ⟨rfl, ⟨v', a.ring⟩, a.below h⟩
set_option maxHeartbeats 1000000 in
theorem alive_any (w : World) : Calls Try.prog 10 #[] w fun e w' => e = .returned (.bool true) ∧ Below w.heap.size w w' := by
  have KN : Hid (Calls Try.prog 39 #[.int .i64 2] w fun e w' => e = .returned (.tuple #[.pointer (some ⟨w.heap.size, 0, none⟩), .int .i64 0]) ∧ Rg_int w' w.heap.size w.heap.size 2 0 0 (.slice none 0 0) [] ∧ Below w.heap.size w w') := Lib.hid (new_int 2 w (by omega) (by omega))
  go_enter Try.func10, Try.ntmps10
  go_wp2_with fail
  refine KN.out.mono ?_
  rintro e w1 ⟨rfl, hr1, hb1⟩
  have H1 := Lib.hid (And.intro hr1 hb1)
  clear hr1 hb1 KN
  go_wp2_with fail
  refine (add2_int 1 [.int .i64 1] 1 rfl rfl H1.out.1 (by omega)).mono ?_
  rintro e w2 ⟨rfl, ⟨v2, hr2⟩, hb2⟩
  have H2 := Lib.hid (And.intro hr2 (H1.out.2.trans hb2))
  clear hr2 hb2 H1
  go_wp2_with fail
  refine (add2_int 2 [.int .i64 1, .int .i64 2] 2 rfl rfl H2.out.1 (by omega)).mono ?_
  rintro e w3 ⟨rfl, ⟨v3, hr3⟩, hb3⟩
  have H3 := Lib.hid (And.intro hr3 (H2.out.2.trans hb3))
  clear hr3 hb3 H2
  go_wp2_with fail
  refine (add2_int 3 [.int .i64 2, .int .i64 3] 2 rfl rfl H3.out.1 (by omega)).mono ?_
  rintro e w4 ⟨rfl, ⟨v4, hr4⟩, hb4⟩
  have H4 := Lib.hid (And.intro hr4 (H3.out.2.trans hb4))
  clear hr4 hb4 H3
  go_wp2_with fail
  refine (all_int H4.out.1 (by omega)).mono ?_
  rintro e w5 ⟨rfl, hr5, hb5⟩
  have c0 : w5.cell? ⟨w4.heap.size, 0, none⟩ = some (.int .i64 2) := hr5.cellAt 0 (by omega)
  have c1 : w5.cell? ⟨w4.heap.size, 1, none⟩ = some (.int .i64 3) := hr5.cellAt 1 (by omega)
  have H5 := Lib.hid (H4.out.2.trans (hb5.mono H4.out.2.size))
  clear hr5 hb5 H4
  go_wp2
  go_ret
  exact ⟨rfl, H5.out⟩
end Go.Proofs.Ytpmmhnojofacpaa
