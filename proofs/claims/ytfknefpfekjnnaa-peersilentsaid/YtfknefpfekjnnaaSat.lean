/- The small calls of package sat and of the document's answers, each by its number, on whole numbers: what each returns. -/
import Derived.Test.YtfknefpfekjnnaaRows
import Derived.Test.YtfknefpfekjnnaaSnum
import Derived.Test.YtfknefpfekjnnaaRead
import Derived.WalkKit
import Derived.WalkSpells
import Derived.Laws.BitsLemmas
import Derived.Lib.Hide
namespace Go.Proofs.Ytfknefpfekjnnaa
open Go.RowKit

theorem mid_num (a b : Int) (h1 : -9223372036854775808 ≤ a) (h2 : a ≤ 9223372036854775807) (h3 : -9223372036854775808 ≤ b) (h4 : b ≤ 9223372036854775807) :
    wrap64 (bits BinOp.and IntKind.i64 a b + bits BinOp.xor IntKind.i64 a b / 2) = (a + b) / 2 := by
  have ea : (BitVec.ofInt 64 a).toNat = (a % 18446744073709551616).toNat := BitVec.toNat_ofInt ..
  have eb : (BitVec.ofInt 64 b).toNat = (b % 18446744073709551616).toNat := BitVec.toNat_ofInt ..
  have e1 : bits BinOp.and IntKind.i64 a b = IntKind.i64.wrap (((a % 18446744073709551616).toNat &&& (b % 18446744073709551616).toNat : Nat) : Int) := by
    show IntKind.i64.wrap ((BitVec.ofInt 64 a &&& BitVec.ofInt 64 b).toNat : Int) = _
    rw [BitVec.toNat_and, ea, eb]
  have e2 : bits BinOp.xor IntKind.i64 a b = IntKind.i64.wrap (((a % 18446744073709551616).toNat ^^^ (b % 18446744073709551616).toNat : Nat) : Int) := by
    show IntKind.i64.wrap ((BitVec.ofInt 64 a ^^^ BitVec.ofInt 64 b).toNat : Int) = _
    rw [BitVec.toNat_xor, ea, eb]
  rw [e1, e2]
  clear e1 e2 ea eb
  have hA : (((a % 18446744073709551616).toNat : Nat) : Int) = a ∧ 0 ≤ a ∨ (((a % 18446744073709551616).toNat : Nat) : Int) = a + 18446744073709551616 ∧ a < 0 := by omega
  have hB : (((b % 18446744073709551616).toNat : Nat) : Int) = b ∧ 0 ≤ b ∨ (((b % 18446744073709551616).toNat : Nat) : Int) = b + 18446744073709551616 ∧ b < 0 := by omega
  generalize (a % 18446744073709551616).toNat = A at *
  generalize (b % 18446744073709551616).toNat = B at *
  have s := and_xor A B
  have t1 := and_top A B
  have t2 := xor_top A B
  have dA : A / 9223372036854775808 = 0 ∧ 0 ≤ a ∨ A / 9223372036854775808 = 1 ∧ a < 0 := by omega
  have dB : B / 9223372036854775808 = 0 ∧ 0 ≤ b ∨ B / 9223372036854775808 = 1 ∧ b < 0 := by omega
  have u1 : (A &&& B) / 9223372036854775808 = if a < 0 ∧ b < 0 then 1 else 0 := by
    rw [t1]; rcases dA with ⟨e, g⟩ | ⟨e, g⟩ <;> rcases dB with ⟨e', g'⟩ | ⟨e', g'⟩ <;> rw [e, e']
    · rw [if_neg (by omega)]; rfl
    · rw [if_neg (by omega)]; rfl
    · rw [if_neg (by omega)]; rfl
    · rw [if_pos (by omega)]; rfl
  have u2 : (A ^^^ B) / 9223372036854775808 = if (a < 0 ↔ b < 0) then 0 else 1 := by
    rw [t2]; rcases dA with ⟨e, g⟩ | ⟨e, g⟩ <;> rcases dB with ⟨e', g'⟩ | ⟨e', g'⟩ <;> rw [e, e']
    · rw [if_pos (by omega)]; rfl
    · rw [if_neg (by omega)]; rfl
    · rw [if_neg (by omega)]; rfl
    · rw [if_pos (by omega)]; rfl
  clear t1 t2 dA dB
  generalize A &&& B = X at *
  generalize A ^^^ B = Y at *
  have hx : IntKind.i64.wrap (X : Int) = (X : Int) ∧ ¬ (a < 0 ∧ b < 0) ∨ IntKind.i64.wrap (X : Int) = (X : Int) - 18446744073709551616 ∧ (a < 0 ∧ b < 0) := by
    rw [IntKind.wrap_i64]; by_cases c : a < 0 ∧ b < 0
    · rw [if_pos c] at u1; exact Or.inr ⟨by omega, c⟩
    · rw [if_neg c] at u1; exact Or.inl ⟨by omega, c⟩
  have hy : IntKind.i64.wrap (Y : Int) = (Y : Int) ∧ (a < 0 ↔ b < 0) ∨ IntKind.i64.wrap (Y : Int) = (Y : Int) - 18446744073709551616 ∧ ¬ (a < 0 ↔ b < 0) := by
    rw [IntKind.wrap_i64]; by_cases c : (a < 0 ↔ b < 0)
    · rw [if_pos c] at u2; exact Or.inl ⟨by omega, c⟩
    · rw [if_neg c] at u2; exact Or.inr ⟨by omega, c⟩
  have hs : 2 * (X : Int) + (Y : Int) = (A : Int) + (B : Int) := by omega
  rw [mid_core a b A B X Y _ _ hA hB hs hx hy]
  exact IntWalk.wrap64_in _ ⟨by omega, by omega⟩

theorem sub_any (a b : Int) (w : World) (h1 : -9223372036854775808 ≤ a) (h2 : a ≤ 9223372036854775807) (h3 : -9223372036854775808 ≤ b) (h4 : b ≤ 9223372036854775807) :
    Calls Try.prog 75 #[.int .i64 a, .int .i64 b] w fun e w' => e = .returned (.int .i64 (stp (a - b))) ∧ w = w' := by
  go_enter Try.func75, Try.ntmps75
  go_wp2
  all_goals
    go_ret
    refine ⟨ret_int ?_, rfl⟩
    unfold stp
    repeat (first | omega | split)

theorem half_any (a : Int) (w : World) (_h1 : -9223372036854775808 ≤ a) (_h2 : a ≤ 9223372036854775807) :
    Calls Try.prog 91 #[.int .i64 a] w fun e w' => e = .returned (.int .i64 (a / 2)) ∧ w = w' := by
  go_enter Try.func91, Try.ntmps91
  go_wp2
  go_ret
  exact ⟨rfl, rfl⟩

theorem mid_any (a b : Int) (w : World) (h1 : -9223372036854775808 ≤ a) (h2 : a ≤ 9223372036854775807) (h3 : -9223372036854775808 ≤ b) (h4 : b ≤ 9223372036854775807) :
    Calls Try.prog 74 #[.int .i64 a, .int .i64 b] w fun e w' => e = .returned (.int .i64 ((a + b) / 2)) ∧ w = w' := by
  have hm := mid_num a b h1 h2 h3 h4
  have HM := Lib.hid hm
  clear hm
  go_enter Try.func74, Try.ntmps74
  go_wp2
  go_ret
  exact ⟨ret_int HM.out, rfl⟩

theorem rsub_any (a b : Int) (w : World) (h1 : -9223372036854775808 ≤ a) (h2 : a ≤ 9223372036854775807) (h3 : -9223372036854775808 ≤ b) (h4 : b ≤ 9223372036854775807) :
    Calls Try.prog 67 #[.int .i64 a, .int .i64 b] w fun e w' => e = .returned (.int .i64 (stp (a - b))) ∧ w = w' := by
  go_enter Try.func67, Try.ntmps67
  go_wp2
  all_goals
    go_ret
    refine ⟨ret_int ?_, rfl⟩
    unfold stp
    repeat (first | omega | split)

theorem rhalf_any (a : Int) (w : World) (h1 : -9223372036854775808 ≤ a) (h2 : a ≤ 9223372036854775807) :
    Calls Try.prog 78 #[.int .i64 a] w fun e w' => e = .returned (.int .i64 (a / 2)) ∧ w = w' := by
  by_cases h : a < 0
  · have hd := Lib.hid (tdiv2_neg a h)
    have hm := Lib.hid (tmod2_neg a h)
    go_enter Try.func78, Try.ntmps78
    go_wp2
    · rename_i c
      go_ret
      refine ⟨ret_int ?_, rfl⟩
      rw [hd.out]; rw [hm.out] at c; simp only [beq_iff_eq] at c; omega
    · rename_i c
      go_ret
      refine ⟨ret_int ?_, rfl⟩
      rw [hd.out]; rw [hm.out] at c; simp only [beq_eq_false_iff_ne, ne_eq] at c
      rw [IntWalk.wrap64_in _ ⟨by omega, by omega⟩]; omega
  · go_enter Try.func78, Try.ntmps78
    go_wp2
    go_ret
    exact ⟨rfl, rfl⟩

theorem rmid_any (a b : Int) (w : World) (h1 : -9223372036854775808 ≤ a) (h2 : a ≤ 9223372036854775807) (h3 : -9223372036854775808 ≤ b) (h4 : b ≤ 9223372036854775807) :
    Calls Try.prog 68 #[.int .i64 a, .int .i64 b] w fun e w' => e = .returned (.int .i64 ((a + b) / 2)) ∧ w = w' := by
  go_enter Try.func68, Try.ntmps68
  go_wp2_with (go_at_call 78; refine (rhalf_any _ _ (by omega) (by omega)).mono ?_; rintro e w' ⟨rfl, rfl⟩)
  go_ret
  exact ⟨ret_int (by omega), rfl⟩

end Go.Proofs.Ytfknefpfekjnnaa
