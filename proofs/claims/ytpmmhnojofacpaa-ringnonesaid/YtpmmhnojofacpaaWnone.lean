/- RingNone's walk. -/
import Derived.Test.YtpmmhnojofacpaaEnds
import Derived.Test.YtpmmhnojofacpaaRstr
import Derived.Test.YtpmmhnojofacpaaRints
namespace Go.Proofs.Ytpmmhnojofacpaa
open Go.RowKit

set_option maxRecDepth 100000 in
set_option maxHeartbeats 4000000 in
theorem walk_none (n : Int) (x : ByteArray) (w : World) : Calls Try.prog 4 #[.int .i64 n, .string x] w fun e w' => e = .returned (.bool true) ∧ Below w.heap.size w w' := by
  go_enter Try.func4, Try.ntmps4
  go_wp2_with fail
  refine (clear_nil_str _).mono ?_
  rintro e w1 ⟨rfl, rfl⟩
  go_wp2_with fail
  refine (last_nil_str _).mono ?_
  rintro e w2 ⟨rfl, hb2⟩
  have B2 := Lib.hid hb2
  clear hb2
  go_wp2_with fail
  refine (add_nil_str x _).mono ?_
  rintro e w3 ⟨rfl, hb3⟩
  have B3 := Lib.hid (bel_trans B2.out hb3)
  clear hb3 B2
  go_wp2_with fail
  refine (all_nil_str _).mono ?_
  rintro e w4 ⟨rfl, rfl⟩
  go_wp2_with fail
  refine (len_nil_str _).mono ?_
  rintro e w5 ⟨rfl, rfl⟩
  go_wp2_with fail
  refine (count_nil_str _).mono ?_
  rintro e w6 ⟨rfl, rfl⟩
  by_cases h1 : n < 1
  · go_wp2_with fail
    refine (new_bad_ints n _ (.inl h1)).mono ?_
    rintro e w7 ⟨rfl, rfl⟩
    go_wp2_with fail
    refine (alive_any _).mono ?_
    rintro e w8 ⟨rfl, hb8⟩
    have B8 := Lib.hid (bel_trans B3.out hb8)
    clear hb8 B3
    go_wp2
    go_ret
    exact ⟨rfl, B8.out⟩
  by_cases h2 : 64 < n
  · go_wp2_with fail
    refine (new_bad_ints n _ (.inr h2)).mono ?_
    rintro e w7 ⟨rfl, rfl⟩
    go_wp2_with fail
    refine (alive_any _).mono ?_
    rintro e w8 ⟨rfl, hb8⟩
    have B8 := Lib.hid (bel_trans B3.out hb8)
    clear hb8 B3
    go_wp2
    go_ret
    exact ⟨rfl, B8.out⟩
  obtain ⟨m, rfl⟩ : ∃ m : Nat, n = (m : Int) := ⟨n.toNat, by omega⟩
  have m1 : 1 ≤ m := by omega
  have m2 : m ≤ 64 := by omega
  go_wp2_with fail
  refine (new_ints m _ m1 m2).mono ?_
  rintro e w7 ⟨rfl, hr7, hb7⟩
  have B7 := Lib.hid (And.intro hr7 (bel_trans B3.out hb7))
  clear hr7 hb7
  have hs := B3.out.size
  generalize hG : w3.heap.size = g at *
  clear hG
  go_wp2_with fail
  refine (last_none_ints B7.out.1).mono ?_
  rintro e w8 ⟨rfl, hb8⟩
  have B8 := Lib.hid (And.intro (B7.out.1.below hb8 (Nat.le_refl _)) (bel_trans B7.out.2 hb8))
  clear hb8 B7
  go_wp2_with fail
  refine (alive_any _).mono ?_
  rintro e w9 ⟨rfl, hb9⟩
  have B9 := Lib.hid (And.intro (B8.out.1.below hb9 (Nat.le_refl _)) (bel_trans B8.out.2 hb9))
  clear hb9 B8
  go_wp2_with fail
  refine (len_ints B9.out.1).mono ?_
  rintro e w10 ⟨rfl, rfl⟩
  have hb10 : Below w9.heap.size w9 (w9.alloc (.cells #[.int .i64 1] 3)) := (Below.refl _ _).alloc (Nat.le_refl _) _
  have B10 := Lib.hid (And.intro (B9.out.1.below hb10 (Nat.le_refl _)) (bel_trans B9.out.2 hb10))
  clear hb10
  go_wp2_with fail
  refine (add_ints _ _ _ B10.out.1 m1 m2 (by omega)).mono ?_
  rintro e w11 ⟨rfl, v11, a11⟩
  have B11 := Lib.hid (And.intro a11.ring (B10.out.2.trans ((a11.below B10.out.1).mono hs)))
  clear a11 B10
  have hm : min (0 + 1) m = 1 := by omega
  rw [hm] at B11
  go_wp2_with fail
  refine (len_ints B11.out.1).mono ?_
  rintro e w12 ⟨rfl, rfl⟩
  go_wp2
  go_ret
  exact ⟨rfl, B11.out.2⟩
end Go.Proofs.Ytpmmhnojofacpaa
