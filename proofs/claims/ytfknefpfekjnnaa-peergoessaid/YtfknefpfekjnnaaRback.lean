/- The document's answer: the packet that bytes are. -/
import Derived.Test.YtfknefpfekjnnaaRget
import Derived.Test.YtfknefpfekjnnaaBack
namespace Go.Proofs.Ytfknefpfekjnnaa
open Go.RowKit

theorem rget_ok (g o len cap : Nat) (zs : List Int) (w : World) (hl : zs.length = len) (h48 : 48 ≤ len) (hlc : len ≤ cap) (hcm : cap ≤ maxLen) (hb : AllBytes zs) (hg : g < w.heap.size) (hc : Has w g o zs) :
    Calls Try.prog 64 #[.slice (some ⟨g, o, none⟩) len cap] w fun e w' => e = .returned (.tuple #[.agg #[.int .u8 (pkOf zs).l, .int .u8 (pkOf zs).v, .int .u8 (pkOf zs).m, .int .u8 (pkOf zs).s, .int .i8 (pkOf zs).po, .int .i8 (pkOf zs).pr, .int .u32 (pkOf zs).de, .int .u32 (pkOf zs).di, .int .u32 (pkOf zs).rs, .int .u64 (pkOf zs).rf, .int .u64 (pkOf zs).og, .int .u64 (pkOf zs).rc, .int .u64 (pkOf zs).xm], .int .i64 0]) ∧ Below w.heap.size w w' := by
  obtain ⟨x0, y0⟩ := byte_at zs 0 hb (by omega)
  obtain ⟨x1, y1⟩ := byte_at zs 1 hb (by omega)
  obtain ⟨x2, y2⟩ := byte_at zs 2 hb (by omega)
  obtain ⟨x3, y3⟩ := byte_at zs 3 hb (by omega)
  obtain ⟨x4, y4⟩ := num4 _ (seg_bytes zs 4 4 hb) (seg_length zs 4 4 (by omega))
  obtain ⟨x8, y8⟩ := num4 _ (seg_bytes zs 8 4 hb) (seg_length zs 8 4 (by omega))
  obtain ⟨x12, y12⟩ := num4 _ (seg_bytes zs 12 4 hb) (seg_length zs 12 4 (by omega))
  refine rget_core g o len cap _ _ _ _ _ _ _ _ _ _ _ w h48 hlc hcm x0 y0 x1 y1 x2 y2 x3 y3 x4 y4 x8 y8 x12 y12 hg (hc 0 (by omega)) (hc 1 (by omega)) (hc 2 (by omega)) (hc 3 (by omega)) ?_
  intro W hW
  have hc' := has_keep hg hW hc
  have one : ∀ i n, n ≤ 8 → i + n ≤ zs.length → ∀ c, Calls Try.prog 76 #[.slice (some ⟨g, o + i, none⟩) n c] W fun e w' => e = .returned (.int .u64 (num (seg zs i n))) ∧ W = w' :=
    fun i n h8 h c => (get_any g (o + i) n c (seg zs i n) W (seg_length zs i n h) h8 (seg_bytes zs i n hb) (seg_has i n h hc'))
  exact ⟨one 4 4 (by decide) (by omega), one 8 4 (by decide) (by omega), one 12 4 (by decide) (by omega), one 16 8 (by decide) (by omega), one 24 8 (by decide) (by omega), one 32 8 (by decide) (by omega), one 40 8 (by decide) (by omega)⟩

theorem rget_short (A : Option Addr) (len cap : Nat) (w : World) (h : len < 48) :
    Calls Try.prog 64 #[.slice A len cap] w fun e w' => e = .returned (.tuple #[.agg #[.int .u8 0, .int .u8 0, .int .u8 0, .int .u8 0, .int .i8 0, .int .i8 0, .int .u32 0, .int .u32 0, .int .u32 0, .int .u64 0, .int .u64 0, .int .u64 0, .int .u64 0], .int .i64 5]) ∧ Below w.heap.size w w' := by
  have hh : (len : Int) < 48 := by omega
  go_enter Try.func64, Try.ntmps64
  go_wp2
  refine bodyPost_ret (v := .tuple #[.agg #[.int .u8 0, .int .u8 0, .int .u8 0, .int .u8 0, .int .i8 0, .int .i8 0, .int .u32 0, .int .u32 0, .int .u32 0, .int .u64 0, .int .u64 0, .int .u64 0, .int .u64 0], .int .i64 5]) (by simp [results, Try.results64, go_sem]) rfl ⟨rfl, ?_⟩
  exact ((Below.refl _ _).alloc (Nat.le_refl _) _)


end Go.Proofs.Ytfknefpfekjnnaa
