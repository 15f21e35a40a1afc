/- The statement PacketBack where something is wrong with the packet and the bytes are 48 or more. -/
import Derived.Test.YtjlaoncideclnaaJoin
import Derived.Lib.QuietBelow
namespace Go.Proofs.Ytjlaoncideclnaa
open Go.Sort Go.RowKit
set_option linter.unusedVariables false

set_option maxHeartbeats 4000000 in
theorem back_BadLong (p0 : Pk) (A1 : Option Addr) (len1 cap1 : Nat) (z1 : List Int) (A2 : Option Addr) (len2 cap2 : Nat) (z2 : List Int) (w : World) (hp0 : p0.In) (hz1 : Bytes w A1 len1 cap1 z1) (hz2 : Bytes w A2 len2 cap2 z2)
    (h1 : len1 ≤ 2000) (h2 : len2 ≤ 2000) (hf : ¬ p0.Fits) (h48 : 48 ≤ len1) :
    Calls Try.prog 6 #[.agg #[.int .u8 p0.l, .int .u8 p0.v, .int .u8 p0.m, .int .u8 p0.s, .int .i8 p0.po, .int .i8 p0.pr, .int .u32 p0.de, .int .u32 p0.di, .int .u32 p0.rs, .int .u64 p0.rf, .int .u64 p0.og, .int .u64 p0.rc, .int .u64 p0.xm], .slice A1 len1 cap1, .slice A2 len2 cap2] w fun e w' => e = .returned (.bool true) ∧ Below w.heap.size w w' := by
  obtain ⟨l1, lc1, cm1, all1, at1, nil1⟩ := hz1
  obtain ⟨l2, lc2, cm2, all2, at2, nil2⟩ := hz2
  have KA := Lib.hid alive_any
  obtain ⟨gb, ob, rfl, hgb, hhb⟩ := at1 (by omega)
  obtain ⟨q, eq⟩ : ∃ q, q = pkOf z1 := ⟨_, rfl⟩
  have KL := Lib.hid (fun w hg hh => get_ok gb ob len1 cap1 z1 w l1 h48 lc1 cm1 all1 hg hh)
  have KQ := Lib.hid (fun w => put_ok (pkOf z1) w (pkOf_in z1 all1 (by omega)) (pkOf_fits z1 all1 (by omega)))
  rw [bytes_pkOf z1 all1 (by omega)] at KQ
  rw [← eq] at KL KQ
  have HB := Lib.hid hhb
  have TL := Lib.hid (show (z1.take 48).length = 48 by simp; omega)
  clear eq l1 all1 at1 nil1 hhb
  unfold maxLen at cm1
  have KP := Lib.hid (fun w => put_bad p0 w hp0 hf)
  clear hp0 hf at2 nil2 l2 lc2 cm2 all2
  go_enter Try.func6, Try.ntmps6
  go_wp2_with fail
  refine (KP.out _).mono ?_
  rintro e w1 ⟨rfl, hb1⟩
  have BW := below_box (below_succ hb1)
  clear hb1 KP
  have KL2 := Lib.hid (KL.out w1 (Nat.lt_of_lt_of_le hgb BW.size) (has_below HB.out hgb BW))
  clear KL
  go_wp2_with fail
  refine KL2.out.mono ?_
  rintro e w6 ⟨rfl, hb6⟩
  have B6 := BW.trans (hb6.mono BW.size)
  clear hb6 KL2 BW
  go_wp2_with fail
  refine (KQ.out _).mono ?_
  rintro e w7 ⟨g7, k7, rfl, hg7, hg8, hk1, hk2, hh7, hb7⟩
  have B7 := (B6.alloc B6.size _).trans (hb7.mono (by have := B6.size; simp; omega))
  have H7 := Lib.hid hh7
  have HB7 := Lib.hid (has_below HB.out hgb B7)
  have hgb7 : gb < w7.heap.size := Nat.lt_of_lt_of_le hgb B7.size
  clear hh7 hb7 KQ HB
  unfold maxLen at hk2
  obtain ⟨st, est⟩ : ∃ st, st = strOfNums (z1.take 48) := ⟨_, rfl⟩
  have cA : ∀ d os, Calls Try.prog 12 #[] (grow (redrawn w7 d) os) fun e w'' => e = .returned (.bool true) ∧ ∃ p : Regrown, w'' = grow (redrawn w7 p.d) p.os := fun d os => Calls.regrown_of (KA.out _)
  have cv1 : ∀ d os, (convert 27 9 (.slice (some ⟨g7, 0, none⟩) 48 k7)).run Try.prog (grow (redrawn w7 d) os) = .ok (.string st) (grow (redrawn w7 d) os) := fun d os => by rw [est]; exact run_string 48 TL.out (has_below H7.out hg8 (below_regrown w7 d os))
  have cv2 : ∀ d os, (convert 27 9 (.slice (some ⟨gb, ob, none⟩) 48 cap1)).run Try.prog (grow (redrawn w7 d) os) = .ok (.string st) (grow (redrawn w7 d) os) := fun d os => by rw [est]; exact run_string 48 TL.out (has_take 48 (has_below HB7.out hgb7 (below_regrown w7 d os)))
  clear est
  have q48 : (48 : Int) ≤ (cap1 : Int) := by omega
  have q49 : (48 : Int) ≤ (len1 : Int) := by omega
  go_wp2_with fail
  refine wp_region_quiet_below (by kernel_rfl) (by kernel_rfl) ?_
  repeat (quiet_step (exact cA _ _))
  refine wpQuiet_nil ?_
  intro _ hw'
  obtain ⟨⟨dq, osq⟩, hw''⟩ := hw'
  subst hw''
  go_wp2
  go_ret
  exact ⟨rfl, B7.trans ((below_regrown w7 dq osq).mono B7.size)⟩

end Go.Proofs.Ytjlaoncideclnaa
