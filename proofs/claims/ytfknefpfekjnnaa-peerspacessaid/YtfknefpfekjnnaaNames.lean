/- The reasons' names; Look of bytes that came in. -/
import Derived.Test.YtfknefpfekjnnaaGood
import Derived.Test.YtfknefpfekjnnaaRlook
import Derived.Test.YtfknefpfekjnnaaOpen
namespace Go.Proofs.Ytfknefpfekjnnaa
open Go.RowKit

def nameCells : Array Value := #[.string { data := #[116, 97, 107, 101, 110] }, .string { data := #[115, 104, 111, 114, 116] }, .string { data := #[117, 110, 107, 110, 111, 119, 110] }, .string { data := #[114, 101, 116, 105, 114, 101, 100] }, .string { data := #[105, 100, 108, 101] }, .string { data := #[118, 101, 114, 115, 105, 111, 110] }, .string { data := #[109, 111, 100, 101] }, .string { data := #[111, 114, 105, 103, 105, 110] }, .string { data := #[107, 105, 115, 115] }, .string { data := #[108, 101, 97, 112] }, .string { data := #[115, 116, 114, 97, 116, 117, 109] }, .string { data := #[122, 101, 114, 111] }, .string { data := #[115, 108, 111, 119] }]
theorem name_at : ∀ n, n < 13 → ∃ s, nameCells[n]? = some (.string s)
  | 0, _ => ⟨_, rfl⟩
  | 1, _ => ⟨_, rfl⟩
  | 2, _ => ⟨_, rfl⟩
  | 3, _ => ⟨_, rfl⟩
  | 4, _ => ⟨_, rfl⟩
  | 5, _ => ⟨_, rfl⟩
  | 6, _ => ⟨_, rfl⟩
  | 7, _ => ⟨_, rfl⟩
  | 8, _ => ⟨_, rfl⟩
  | 9, _ => ⟨_, rfl⟩
  | 10, _ => ⟨_, rfl⟩
  | 11, _ => ⟨_, rfl⟩
  | 12, _ => ⟨_, rfl⟩
  | n + 13, h => by omega

theorem look_any (A : Option Addr) (len cap : Nat) (zs : List Int) (k : Int) (w : World) (hz : Bytes w A len cap zs) :
    Calls Try.prog 27 #[.slice A len cap, .int .u64 k] w fun e w' => e = .returned (.tuple #[.agg #[.int .u8 (lookP k zs).l, .int .u8 (lookP k zs).v, .int .u8 (lookP k zs).m, .int .u8 (lookP k zs).s, .int .i8 (lookP k zs).po, .int .i8 (lookP k zs).pr, .int .u32 (lookP k zs).de, .int .u32 (lookP k zs).di, .int .u32 (lookP k zs).rs, .int .u64 (lookP k zs).rf, .int .u64 (lookP k zs).og, .int .u64 (lookP k zs).rc, .int .u64 (lookP k zs).xm], .int .i64 (lookW k zs)]) ∧ Below w.heap.size w w' := by
  obtain ⟨hl, hlc, hcm, hall, hat, _⟩ := hz
  by_cases h48 : len < 48
  · exact look_short A len cap zs k w hl h48
  · obtain ⟨g, o, rfl, hg, hh⟩ := hat (by omega)
    exact look_long g o len cap zs k w hl (by omega) hlc hcm hall hg hh
theorem rlook_any (A : Option Addr) (len cap : Nat) (zs : List Int) (k : Int) (w : World) (hz : Bytes w A len cap zs) :
    Calls Try.prog 45 #[.slice A len cap, .int .u64 k] w fun e w' => e = .returned (.tuple #[.agg #[.int .u8 (lookP k zs).l, .int .u8 (lookP k zs).v, .int .u8 (lookP k zs).m, .int .u8 (lookP k zs).s, .int .i8 (lookP k zs).po, .int .i8 (lookP k zs).pr, .int .u32 (lookP k zs).de, .int .u32 (lookP k zs).di, .int .u32 (lookP k zs).rs, .int .u64 (lookP k zs).rf, .int .u64 (lookP k zs).og, .int .u64 (lookP k zs).rc, .int .u64 (lookP k zs).xm], .int .i64 (lookW k zs)]) ∧ Below w.heap.size w w' := by
  obtain ⟨hl, hlc, hcm, hall, hat, _⟩ := hz
  by_cases h48 : len < 48
  · exact rlook_short A len cap zs k w hl h48
  · obtain ⟨g, o, rfl, hg, hh⟩ := hat (by omega)
    exact rlook_long g o len cap zs k w hl (by omega) hlc hcm hall hg hh
theorem bytes_below {A : Option Addr} {len cap : Nat} {zs : List Int} {w w' : World} (hz : Bytes w A len cap zs) (hb : Below w.heap.size w w') : Bytes w' A len cap zs := by
  obtain ⟨hl, hlc, hcm, hall, hat, hn⟩ := hz
  refine ⟨hl, hlc, hcm, hall, fun h => ?_, hn⟩
  obtain ⟨g, o, rfl, hg, hh⟩ := hat h
  exact ⟨g, o, rfl, Nat.lt_of_lt_of_le hg hb.size, has_below hh hg hb⟩
end Go.Proofs.Ytfknefpfekjnnaa
