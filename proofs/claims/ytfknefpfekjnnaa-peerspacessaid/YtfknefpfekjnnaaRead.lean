/- The calls that read a number of bytes: package packet's and the document's. -/
import Derived.Test.YtfknefpfekjnnaaRows
import Derived.Test.YtfknefpfekjnnaaNum
import Derived.WalkKit
import Derived.WalkSpells
import Derived.Laws.BitsLemmas
import Derived.Lib.Hide
namespace Go.Proofs.Ytfknefpfekjnnaa
open Go.RowKit

theorem ret_int {k : IntKind} {a b : Int} (h : a = b) : Ending.returned (.int k a) = .returned (.int k b) := by rw [h]

/-- Bytes lie from a place on. -/
def Has (w : World) (g o : Nat) (zs : List Int) : Prop := ∀ t, t < zs.length → w.cell? ⟨g, o + t, none⟩ = some (.int .u8 (zs.getD t 0))

theorem take_snoc (zs : List Int) (k : Nat) (h : k < zs.length) : zs.take (k + 1) = zs.take k ++ [zs.getD k 0] := by
  rw [List.take_succ_eq_append_getElem h]; simp [List.getD, h]
theorem num_snoc (zs : List Int) (k : Nat) (h : k < zs.length) : num (zs.take (k + 1)) = 256 * num (zs.take k) + zs.getD k 0 := by
  rw [take_snoc zs k h]; unfold num; rw [numFrom_append]; rfl
theorem num_take_bd (zs : List Int) (k : Nat) (h : AllBytes zs) (hk : k < zs.length) (h8 : zs.length ≤ 8) : 0 ≤ num (zs.take k) ∧ num (zs.take k) < 72057594037927936 := by
  have ht : AllBytes (zs.take k) := fun z hz => h z (List.mem_of_mem_take hz)
  obtain ⟨h0, h1⟩ := num_bd _ ht
  refine ⟨h0, Int.lt_of_lt_of_le h1 ?_⟩
  have : (zs.take k).length ≤ 7 := by simp; omega
  have e : (72057594037927936 : Int) = 256 ^ 7 := by decide
  rw [e]
  exact pow_mono256 this
theorem byte_at (zs : List Int) (k : Nat) (h : AllBytes zs) (hk : k < zs.length) : 0 ≤ zs.getD k 0 ∧ zs.getD k 0 ≤ 255 := by
  have e : zs.getD k 0 = zs[k] := by simp [List.getD, hk]
  rw [e]; exact h _ (List.getElem_mem hk)

theorem read_any (g o len cap : Nat) (zs : List Int) (w : World) (hl : zs.length = len) (h8 : len ≤ 8) (hb : AllBytes zs) (hc : Has w g o zs) :
    Calls Try.prog 49 #[.slice (some ⟨g, o, none⟩) len cap] w fun e w' => e = .returned (.int .u64 (num zs)) ∧ w = w' := by
  have HB := Lib.hid hb
  have HC := Lib.hid hc
  have HL := Lib.hid hl
  clear hb hc hl
  go_enter Try.func49, Try.ntmps49
  go_wp2
  go_loop [3, 8] (fun n i => ∃ k : Nat, k ≤ len ∧ i = .int .i64 k ∧ n = .int .u64 (num (zs.take k))) (fun _ i => len - (intOf i).toNat)
  case atStart => exact ⟨0, Nat.zero_le _, rfl, rfl⟩
  case round =>
    obtain ⟨k, hk, rfl, rfl⟩ := hrel
    by_cases hlt : k < len
    · have hkz : k < zs.length := by rw [HL.out]; exact hlt
      have HS := Lib.hid (num_snoc zs k hkz)
      have hn := num_take_bd zs k HB.out hkz (by rw [HL.out]; exact h8)
      have hd := byte_at zs k HB.out hkz
      have hcell := HC.out k hkz
      clear hkz
      generalize num (zs.take k) = n at *
      generalize zs.getD k 0 = d at *
      obtain ⟨hn0, hn1⟩ := hn
      obtain ⟨hd0, hd1⟩ := hd
      go_wp2
      go_round
      case rel =>
        refine ⟨k + 1, by omega, by go_num, ?_⟩
        rw [HS.out]
        refine congrArg _ ?_
        have := bits_join .u64 64 (by decide) (by intro n _ _; simp only [IntKind.wrap_u64]; omega) 8 (n * 256) d (by omega) (by omega) (by omega) (by omega) (by omega) (by omega)
        first | (rw [this]; omega) | (rw [Int.mul_comm 256 n, ← this])
      case measure => simp [intOf]; omega
    · go_wp2
      go_ret
      refine ⟨ret_int ?_, rfl⟩
      rw [List.take_of_length_le (by rw [HL.out]; omega)]

theorem get_any (g o len cap : Nat) (zs : List Int) (w : World) (hl : zs.length = len) (h8 : len ≤ 8) (hb : AllBytes zs) (hc : Has w g o zs) :
    Calls Try.prog 76 #[.slice (some ⟨g, o, none⟩) len cap] w fun e w' => e = .returned (.int .u64 (num zs)) ∧ w = w' := by
  have HB := Lib.hid hb
  have HC := Lib.hid hc
  have HL := Lib.hid hl
  clear hb hc hl
  go_enter Try.func76, Try.ntmps76
  go_wp2
  go_loop [3, 4] (fun n i => ∃ k : Nat, k ≤ len ∧ i = .int .i64 k ∧ n = .int .u64 (num (zs.take k))) (fun _ i => len - (intOf i).toNat)
  case atStart => exact ⟨0, Nat.zero_le _, rfl, rfl⟩
  case round =>
    obtain ⟨k, hk, rfl, rfl⟩ := hrel
    by_cases hlt : k < len
    · have hkz : k < zs.length := by rw [HL.out]; exact hlt
      have HS := Lib.hid (num_snoc zs k hkz)
      have hn := num_take_bd zs k HB.out hkz (by rw [HL.out]; exact h8)
      have hd := byte_at zs k HB.out hkz
      have hcell := HC.out k hkz
      clear hkz
      generalize num (zs.take k) = n at *
      generalize zs.getD k 0 = d at *
      obtain ⟨hn0, hn1⟩ := hn
      obtain ⟨hd0, hd1⟩ := hd
      go_wp2
      go_round
      case rel =>
        refine ⟨k + 1, by omega, by go_num, ?_⟩
        rw [HS.out]
      case measure => simp [intOf]; omega
    · go_wp2
      go_ret
      refine ⟨ret_int ?_, rfl⟩
      rw [List.take_of_length_le (by rw [HL.out]; omega)]

end Go.Proofs.Ytfknefpfekjnnaa
