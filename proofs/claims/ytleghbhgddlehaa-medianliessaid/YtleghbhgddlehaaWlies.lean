/- MedianLies' walk. -/
import Derived.Test.YtleghbhgddlehaaApp
namespace Go.Proofs.Ytleghbhgddlehaa
open Go.RowKit Go.Sort

set_option maxRecDepth 100000 in
set_option maxHeartbeats 4000000 in
theorem walk_lies (A0 : Option Addr) (n0 c0 : Nat) (A1 : Option Addr) (n1 c1 : Nat) (w : World) (hz0 : IntsIn .i64 w A0 n0 c0) (hz1 : IntsIn .i64 w A1 n1 c1) :
    Calls Try.prog 5 #[.slice A0 n0 c0, .slice A1 n1 c1] w fun e w' => e = .returned (.bool true) ∧ Below w.heap.size w w' := by
  obtain ⟨l1, l2, xs, hl, hwx, hx, hn⟩ := hz0
  obtain ⟨l3, l4, ys, hly, hwy, hy, hny⟩ := hz1
  have m1 : c0 ≤ 9223372036854775807 := by unfold maxLen at l2; omega
  have m2 : c1 ≤ 9223372036854775807 := by unfold maxLen at l4; omega
  have X := Lib.hid (And.intro hl (And.intro hx hn))
  have Y := Lib.hid (And.intro hly (And.intro hy hny))
  clear hl hwx hx hn hly hwy hy hny l2 l4
  go_enter Try.func5, Try.ntmps5
  go_wp2_with fail
  refine (alive_any w).mono ?_
  rintro e w1 ⟨rfl, hb1⟩
  have H1 := Lib.hid hb1
  clear hb1
  by_cases q1 : 100 < n0 ∨ n0 ≤ n1
  · have q3 : 100 < n0 ∨ n0 ≤ 100 ∧ n0 ≤ n1 := by omega
    clear q1
    rcases q3 with q1 | ⟨q1, q2⟩
    all_goals
      go_wp2_with fail
      refine (alive_any _).mono ?_
      rintro e w2 ⟨rfl, hb2⟩
      have H2 := Lib.hid (bel_trans H1.out hb2)
      clear hb2 H1
      go_wp2
      go_ret
      exact ⟨rfl, H2.out⟩
  have q2 : n0 ≤ 100 := by omega
  have q3 : n1 < n0 := by omega
  clear q1
  obtain ⟨W, hW⟩ : ∃ W, W = w1.alloc (.cells #[] 2) := ⟨_, rfl⟩
  have hbW : Below w1.heap.size w1 W := by rw [hW]; exact (Below.refl _ _).alloc (Nat.le_refl _) _
  have ho : W.ownsRow w1.heap.size 2 1 (.slice (some ⟨w1.heap.size, 0, none⟩) 0 0) 0 (([] : List Int).map I) := by rw [hW]; exact own_empty w1 2
  have H2 := Lib.hid (bel_trans H1.out hbW)
  have HO := Lib.hid ho
  have HS : Hid (w1.heap.size ≤ W.heap.size ∧ w.heap.size ≤ w1.heap.size) := Lib.hid ⟨hbW.size, H1.out.size⟩
  have HW := Lib.hid hW
  clear hW hbW ho H1
  go_wp2_with (first
    | (at_builtin; rw [← HW.out]; refine app_i rfl (.tmp 26) (.tmp 27) rfl w1.heap.size _ 0 [] rfl HO.out A0 n0 c0 xs rfl X.out.1 X.out.2.2 (X.out.2.1.later H2.out) (by omega) HS.out.1 ?_; intro v2 w2 ho2 hg2 _; have H3 := Lib.hid (bel_grown H2.out HO.out HS.out.2 hg2); have HO2 := Lib.hid ho2; have HS2 : Hid (w1.heap.size ≤ w2.heap.size) := Lib.hid (Nat.le_trans HS.out.1 hg2.size); clear ho2 hg2 HO H2)
    | (at_builtin; refine app_i rfl (.tmp 28) (.tmp 29) rfl w1.heap.size _ _ _ rfl HO2.out A1 n1 c1 ys rfl Y.out.1 Y.out.2.2 (Y.out.2.1.later H3.out) (by omega) HS2.out ?_; intro v3 w3 ho3 hg3 _; have H4 := Lib.hid (bel_grown H3.out HO2.out HS.out.2 hg3); have HO3 := Lib.hid ho3; clear ho3 hg3 HO2 H3))
  have ho3 := HO3.out
  obtain ⟨A3, c3, rfl, hc3, _⟩ := own_len ho3
  rw [List.nil_append, Nat.zero_add] at ho3
  rw [Nat.zero_add] at hc3 ⊢
  have hlen : (xs ++ ys).length = n0 + n1 := by rw [List.length_append, X.out.1, Y.out.1]
  have K := of_i (w := w3) (Ad := A3) (c := c3) (xs ++ ys) (by omega) (by omega) (lies_own ho3)
  obtain ⟨k1, k2⟩ := mid_lies xs ys (by rw [X.out.1, Y.out.1]; exact q3)
  rw [show ((xs ++ ys).mergeSort leI).getD (((xs ++ ys).length - 1) / 2) 0 = mid (xs ++ ys) from rfl, hlen] at K
  generalize mid (xs ++ ys) = m at K k1 k2
  have HK := Lib.hid K
  clear K ho3 hlen HO3
  go_wp2_with fail
  refine HK.out.mono ?_
  rintro e w4 ⟨rfl, hb4⟩
  have H5 := Lib.hid (bel_trans H4.out hb4)
  clear hb4 H4 HK
  have K := spread_i (w := w4) (Ad := A0) (c := c0) xs (by rw [X.out.1]; omega) (by rw [X.out.1]; omega) (X.out.2.1.later H5.out)
  rw [X.out.1] at K
  generalize Lib.minOf xs = lo at K k1
  generalize Lib.maxOf xs = hi at K k2
  have HK := Lib.hid K
  clear K
  go_wp2_with fail
  refine HK.out.mono ?_
  rintro e w5 ⟨rfl, rfl⟩
  clear HK
  go_wp2
  go_ret
  exact ⟨by simp, H5.out⟩
end Go.Proofs.Ytleghbhgddlehaa
