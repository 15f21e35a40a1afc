/- The library's words for Split and Cut, at one byte, in ours. -/
import Derived.Test.YtlbabhddjdhalaaDoorLx
import Derived.Lib.SplitLaws
import Derived.Lib.Split
import Derived.Lib.IndexMore
namespace Go.Proofs.Lx
open Go

theorem index_none (x : UInt8) : ∀ (l : Bs), x ∉ l → Lib.index l [x] = -1
  | [], _ => by simp [Lib.index]
  | c :: l, h => by
    have h1 : c ≠ x := fun e => h (by simp [e])
    have h2 : x ∉ l := fun e => h (by simp [e])
    rw [Lib.index, if_neg (by simp [Ne.symm h1]), index_none x l h2]; rfl
theorem index_hit (x : UInt8) : ∀ (a b : Bs), x ∉ a → Lib.index (a ++ x :: b) [x] = a.length
  | [], b, _ => by simp [Lib.index]
  | c :: a, b, h => by
    have h1 : c ≠ x := fun e => h (by simp [e])
    have h2 : x ∉ a := fun e => h (by simp [e])
    rw [List.cons_append, Lib.index, if_neg (by simp [Ne.symm h1]), index_hit x a b h2, if_neg (by simp)]
    simp
theorem splitK_eq (x : UInt8) : ∀ (n : Nat) (l : Bs) (acc : List Bs), l.length ≤ n → cutF x acc [] l = acc ++ Lib.splitK [x] 0 (l.count x) l
  | n, l, acc, hn => by
    by_cases h : x ∈ l
    · obtain ⟨a, b, rfl, ha⟩ := List.eq_append_cons_of_mem h
      have hc : (a ++ x :: b).count x = b.count x + 1 := by
        rw [List.count_append, List.count_cons_self, List.count_eq_zero_of_not_mem ha]; omega
      match n with
      | 0 => simp at hn
      | n + 1 =>
        rw [cutF_hit x a b acc [] ha, splitK_eq x n b _ (by simp at hn; omega), hc, Lib.splitK, index_hit x a b ha, if_neg (by simp)]
        simp
    · rw [cutF_none x l acc [] h, List.count_eq_zero_of_not_mem h, Lib.splitK]; simp
theorem lines_lib (s : ByteArray) : (Lib.splitB ⟨#[10]⟩ 0 (Lib.countB s ⟨#[10]⟩) s).map (·.data.toList) = linesOf s.data.toList := by
  rw [Lib.splitB_data]
  have e : Lib.countB s ⟨#[10]⟩ = s.data.toList.count 10 := by
    show Lib.count s.data.toList [10] = _
    rw [Lib.count_one]
  rw [e]
  unfold linesOf
  rw [splitK_eq 10 _ s.data.toList [] (Nat.le_refl _)]
  rfl
theorem take_while_hit (x : UInt8) : ∀ (a b : Bs), x ∉ a → (a ++ x :: b).takeWhile (· != x) = a
  | [], b, _ => by simp
  | c :: a, b, h => by
    have h1 : c ≠ x := fun e => h (by simp [e])
    have h2 : x ∉ a := fun e => h (by simp [e])
    rw [List.cons_append, List.takeWhile_cons, if_pos (by simp [h1]), take_while_hit x a b h2]
theorem take_while_none (x : UInt8) : ∀ (a : Bs), x ∉ a → a.takeWhile (· != x) = a
  | [], _ => by simp
  | c :: a, h => by
    have h1 : c ≠ x := fun e => h (by simp [e])
    have h2 : x ∉ a := fun e => h (by simp [e])
    rw [List.takeWhile_cons, if_pos (by simp [h1]), take_while_none x a h2]
theorem said_lib (l : Bs) : (Lib.cut l [35]).1 = said l := by
  unfold Lib.cut said
  by_cases h : (35 : UInt8) ∈ l
  · obtain ⟨a, b, rfl, ha⟩ := List.eq_append_cons_of_mem h
    rw [index_hit 35 a b ha, take_while_hit 35 a b ha, if_pos (by omega)]
    simp
  · rw [index_none 35 l h, take_while_none 35 l h]; rfl
end Go.Proofs.Lx
