/- The statement PacketBack where something is wrong with the packet and the bytes are fewer than 48. -/
import Derived.Test.YtjlaoncideclnaaJoin
import Derived.Lib.QuietBelow
namespace Go.Proofs.Ytjlaoncideclnaa
open Go.Sort Go.RowKit
set_option linter.unusedVariables false

set_option maxHeartbeats 4000000 in
theorem back_BadShort (p0 : Pk) (A1 : Option Addr) (len1 cap1 : Nat) (z1 : List Int) (A2 : Option Addr) (len2 cap2 : Nat) (z2 : List Int) (w : World) (hp0 : p0.In) (hz1 : Bytes w A1 len1 cap1 z1) (hz2 : Bytes w A2 len2 cap2 z2)
    (h1 : len1 ≤ 2000) (h2 : len2 ≤ 2000) (hf : ¬ p0.Fits) (h48 : len1 < 48) :
    Calls Try.prog 6 #[.agg #[.int .u8 p0.l, .int .u8 p0.v, .int .u8 p0.m, .int .u8 p0.s, .int .i8 p0.po, .int .i8 p0.pr, .int .u32 p0.de, .int .u32 p0.di, .int .u32 p0.rs, .int .u64 p0.rf, .int .u64 p0.og, .int .u64 p0.rc, .int .u64 p0.xm], .slice A1 len1 cap1, .slice A2 len2 cap2] w fun e w' => e = .returned (.bool true) ∧ Below w.heap.size w w' := by
  obtain ⟨l1, lc1, cm1, all1, at1, nil1⟩ := hz1
  obtain ⟨l2, lc2, cm2, all2, at2, nil2⟩ := hz2
  have KA := Lib.hid alive_any
  have hd48 : decide ((len1 : Int) < 48) = true := by simp; omega
  have KS := Lib.hid (fun w => get_short A1 len1 cap1 w h48)
  clear l1 lc1 cm1 all1 at1 nil1
  have KP := Lib.hid (fun w => put_bad p0 w hp0 hf)
  clear hp0 hf at2 nil2 l2 lc2 cm2 all2
  go_enter Try.func6, Try.ntmps6
  go_wp2_with fail
  refine (KP.out _).mono ?_
  rintro e w1 ⟨rfl, hb1⟩
  have BW := below_box (below_succ hb1)
  clear hb1 KP
  go_wp2_with fail
  refine (KS.out _).mono ?_
  rintro e w6 ⟨rfl, hb6⟩
  have B6 := BW.trans (hb6.mono BW.size)
  clear hb6 KS BW
  go_wp2_with fail
  refine (KA.out _).mono ?_
  rintro e w7 ⟨rfl, hb7⟩
  have B7 := (B6.alloc B6.size _).trans (hb7.mono (by have := B6.size; simp; omega))
  go_wp2
  go_ret
  exact ⟨rfl, B7⟩

end Go.Proofs.Ytjlaoncideclnaa
