/- The statement PacketBack where nothing is wrong with the packet and the bytes are fewer than 48. -/
import Derived.Test.YtjlaoncideclnaaJoin
import Derived.Lib.QuietBelow
namespace Go.Proofs.Ytjlaoncideclnaa
open Go.Sort Go.RowKit
set_option linter.unusedVariables false

set_option maxHeartbeats 4000000 in
theorem back_FitsShort (p0 : Pk) (A1 : Option Addr) (len1 cap1 : Nat) (z1 : List Int) (A2 : Option Addr) (len2 cap2 : Nat) (z2 : List Int) (w : World) (hp0 : p0.In) (hz1 : Bytes w A1 len1 cap1 z1) (hz2 : Bytes w A2 len2 cap2 z2)
    (h1 : len1 ≤ 2000) (h2 : len2 ≤ 2000) (hf : p0.Fits) (h48 : len1 < 48) :
    Calls Try.prog 6 #[.agg #[.int .u8 p0.l, .int .u8 p0.v, .int .u8 p0.m, .int .u8 p0.s, .int .i8 p0.po, .int .i8 p0.pr, .int .u32 p0.de, .int .u32 p0.di, .int .u32 p0.rs, .int .u64 p0.rf, .int .u64 p0.og, .int .u64 p0.rc, .int .u64 p0.xm], .slice A1 len1 cap1, .slice A2 len2 cap2] w fun e w' => e = .returned (.bool true) ∧ Below w.heap.size w w' := by
  obtain ⟨l1, lc1, cm1, all1, at1, nil1⟩ := hz1
  obtain ⟨l2, lc2, cm2, all2, at2, nil2⟩ := hz2
  have KA := Lib.hid alive_any
  have hd48 : decide ((len1 : Int) < 48) = true := by simp; omega
  have KS := Lib.hid (fun w => get_short A1 len1 cap1 w h48)
  clear l1 lc1 cm1 all1 at1 nil1
  have KP := Lib.hid (fun w => put_ok p0 w hp0 hf)
  have AT2 := Lib.hid at2
  have NIL2 := Lib.hid nil2
  have L2 := Lib.hid l2
  have KG := Lib.hid (fun g len cap w hl hlc hcm hg hc => get_back p0 z2 g 0 len cap w hp0 hf all2 hl hlc hcm hg hc)
  have LB := Lib.hid (Pk.bytes_length p0)
  clear hp0 hf at2 nil2 l2 lc2 cm2 all2
  go_enter Try.func6, Try.ntmps6
  go_wp2_with fail
  refine (KP.out _).mono ?_
  rintro e w1 ⟨g, c, rfl, hg1, hg2, hc1, hc2, hh, hb1⟩
  have B1 := below_succ hb1
  have hs1 : w.heap.size + 1 ≤ w1.heap.size := by have := B1.size; simp at this; omega
  have HC := Lib.hid hh
  clear hh hb1 KP
  unfold maxLen at hc2
  go_wp2_with (first | (at_builtin; refine wpList_append_bytes rfl (.tmp 34) (.tmp 35) rfl w1.heap.size (.slice (some ⟨w1.heap.size, 0, none⟩) 0 0) [] rfl (own_empty w1 _ (Nat.le_refl _)) (some ⟨g, 0, none⟩) 48 c p0.bytes rfl LB.out (fun _ => ⟨g, 0, rfl, has_below HC.out hg2 ((Below.refl _ w1).alloc (Nat.le_refl _) _)⟩) (fun h => by cases h) (by simp) (by simp) ?_; intro v2 w2 hown2 hgrow2; have O2 := Lib.hid hown2; have b2 : Below w1.heap.size w1 w2 := ((Below.refl _ w1).alloc (Nat.le_refl _) _).grown hgrow2 (by simp) (fun k hk => by simp [Value.ownBlock] at hk; omega); clear hown2 hgrow2) | (at_builtin; refine wpList_append_bytes rfl (.tmp 36) (.tmp 37) rfl w1.heap.size v2 ([] ++ p0.bytes) rfl O2.out A2 len2 cap2 z2 rfl L2.out (fun h => by obtain ⟨g', o', e1, e2, e3⟩ := AT2.out h; exact ⟨g', o', e1, has_below e3 e2 ((below_box B1).trans (b2.mono (by omega)))⟩) NIL2.out (by rw [List.nil_append, LB.out]; omega) b2.size ?_; intro v3 w3 hown3 hgrow3; have b3 : Below w1.heap.size w1 w3 := b2.grown hgrow3 b2.size (fun k hk => (World.ownsRow.lt O2.out k hk).1); obtain ⟨g3, c3, ev3, hg3, hg4, hc3, hc4, hh3⟩ := own_form (n := 48 + len2) hown3 (by rw [List.length_append, List.nil_append, LB.out, L2.out]) (by omega); subst ev3; have KG3 := Lib.hid (KG.out g3 (48 + len2) c3 w3 (by rw [List.length_append, LB.out, L2.out]) hc3 hc4 hg4 hh3); clear hown3 hgrow3 hh3 hc3 hc4 O2 b2))
  refine KG3.out.mono ?_
  rintro e w4 ⟨rfl, hb4⟩
  clear KG3 KG
  have hs3 := b3.size
  have B4 := B1.trans ((b3.trans (hb4.mono hs3)).mono hs1)
  have hs4 : w1.heap.size ≤ w4.heap.size := Nat.le_trans hs3 hb4.size
  have hlt4 : w.heap.size < w4.heap.size := by omega
  clear b3 hb4
  have c0 : w4.cell? ⟨w.heap.size, 0, none⟩ = some (.int .u8 p0.l) := box_cell B4 0; have c1 : w4.cell? ⟨w.heap.size, 1, none⟩ = some (.int .u8 p0.v) := box_cell B4 1; have c2 : w4.cell? ⟨w.heap.size, 2, none⟩ = some (.int .u8 p0.m) := box_cell B4 2; have c3 : w4.cell? ⟨w.heap.size, 3, none⟩ = some (.int .u8 p0.s) := box_cell B4 3; have c4 : w4.cell? ⟨w.heap.size, 4, none⟩ = some (.int .i8 p0.po) := box_cell B4 4; have c5 : w4.cell? ⟨w.heap.size, 5, none⟩ = some (.int .i8 p0.pr) := box_cell B4 5; have c6 : w4.cell? ⟨w.heap.size, 6, none⟩ = some (.int .u32 p0.de) := box_cell B4 6; have c7 : w4.cell? ⟨w.heap.size, 7, none⟩ = some (.int .u32 p0.di) := box_cell B4 7; have c8 : w4.cell? ⟨w.heap.size, 8, none⟩ = some (.int .u32 p0.rs) := box_cell B4 8; have c9 : w4.cell? ⟨w.heap.size, 9, none⟩ = some (.int .u64 p0.rf) := box_cell B4 9; have c10 : w4.cell? ⟨w.heap.size, 10, none⟩ = some (.int .u64 p0.og) := box_cell B4 10; have c11 : w4.cell? ⟨w.heap.size, 11, none⟩ = some (.int .u64 p0.rc) := box_cell B4 11; have c12 : w4.cell? ⟨w.heap.size, 12, none⟩ = some (.int .u64 p0.xm) := box_cell B4 12
  have KS47 := Lib.hid (get_short (some ⟨g, 0, none⟩) 47 c (w4.alloc (.cells #[.int .u8 p0.l, .int .u8 p0.v, .int .u8 p0.m, .int .u8 p0.s, .int .i8 p0.po, .int .i8 p0.pr, .int .u32 p0.de, .int .u32 p0.di, .int .u32 p0.rs, .int .u64 p0.rf, .int .u64 p0.og, .int .u64 p0.rc, .int .u64 p0.xm] 26)) (by decide))
  have q47 : (47 : Int) ≤ (c : Int) := by omega
  go_wp2_with fail
  refine KS47.out.mono ?_
  rintro e w5 ⟨rfl, hb5⟩
  have b5 := (below_box B4).trans ((below_box (below_succ hb5)).mono (by omega))
  have hs5 : w4.heap.size + 1 ≤ w5.heap.size := by have := hb5.size; simp at this; omega
  have BW : Below w.heap.size w (w5.alloc (.cells #[.int .u8 0, .int .u8 0, .int .u8 0, .int .u8 0, .int .i8 0, .int .i8 0, .int .u32 0, .int .u32 0, .int .u32 0, .int .u64 0, .int .u64 0, .int .u64 0, .int .u64 0] 26)) := b5.alloc (by omega) _
  clear hb5 KS47 c0 c1 c2 c3 c4 c5 c6 c7 c8 c9 c10 c11 c12 B1 B4
  go_wp2_with fail
  refine (KS.out _).mono ?_
  rintro e w6 ⟨rfl, hb6⟩
  have B6 := BW.trans (hb6.mono BW.size)
  clear hb6 KS BW
  go_wp2_with fail
  refine (KA.out _).mono ?_
  rintro e w7 ⟨rfl, hb7⟩
  have B7 := (B6.alloc B6.size _).trans (hb7.mono (by have := B6.size; simp; omega))
  go_wp2
  go_ret
  exact ⟨rfl, B7⟩

end Go.Proofs.Ytjlaoncideclnaa
