/- MedianMore's walk. -/
import Derived.Test.YtleghbhgddlehaaApp
namespace Go.Proofs.Ytleghbhgddlehaa
open Go.RowKit Go.Sort

set_option maxRecDepth 100000 in
set_option maxHeartbeats 4000000 in
theorem walk_more (A0 : Option Addr) (n0 c0 : Nat) (w : World) (hz0 : IntsIn .i64 w A0 n0 c0) :
    Calls Try.prog 7 #[.slice A0 n0 c0] w fun e w' => e = .returned (.bool true) ∧ Below w.heap.size w w' := by
  obtain ⟨l1, l2, xs, hl, hwx, hx, hn⟩ := hz0
  have m1 : c0 ≤ 9223372036854775807 := by unfold maxLen at l2; omega
  have X := Lib.hid (And.intro hl (And.intro hx hn))
  clear hl hwx hx hn l2
  go_enter Try.func7, Try.ntmps7
  go_wp2_with fail
  refine (alive_any w).mono ?_
  rintro e w1 ⟨rfl, hb1⟩
  have H1 := Lib.hid hb1
  clear hb1
  by_cases q1 : n0 = 0 ∨ 100 < n0
  · have q3 : n0 = 0 ∨ ¬ n0 = 0 ∧ 100 < n0 := by omega
    clear q1
    rcases q3 with q1 | ⟨q1, q2⟩
    · subst q1
      go_wp2_with fail
      refine (alive_any _).mono ?_
      rintro e w2 ⟨rfl, hb2⟩
      have H2 := Lib.hid (bel_trans H1.out hb2)
      clear hb2 H1
      go_wp2
      go_ret
      exact ⟨rfl, H2.out⟩
    · have t0 : ((n0 : Int) == 0) = false := by rw [beq_eq_false_iff_ne]; omega
      go_wp2_with fail
      refine (alive_any _).mono ?_
      rintro e w2 ⟨rfl, hb2⟩
      have H2 := Lib.hid (bel_trans H1.out hb2)
      clear hb2 H1
      go_wp2
      go_ret
      exact ⟨rfl, H2.out⟩
  have t0 : ((n0 : Int) == 0) = false := by rw [beq_eq_false_iff_ne]; omega
  have q2 : n0 ≤ 100 := by omega
  have q3 : 0 < n0 := by omega
  clear q1
  have K := of_i (w := w1) (Ad := A0) (c := c0) xs (by rw [X.out.1]; omega) (by rw [X.out.1]; omega) (X.out.2.1.later H1.out)
  have e1 := mid_twice xs (by rw [X.out.1]; omega)
  have e2 := mid_more xs (by rw [X.out.1]; omega)
  rw [show (xs.mergeSort leI).getD ((xs.length - 1) / 2) 0 = mid xs from rfl, X.out.1] at K
  generalize mid xs = m at K e1 e2
  have HK := Lib.hid K
  have E := Lib.hid (And.intro e1 e2)
  clear K e1 e2
  go_wp2_with fail
  refine HK.out.mono ?_
  rintro e w2 ⟨rfl, hb2⟩
  have H2 := Lib.hid (bel_trans H1.out hb2)
  clear hb2 H1 HK
  -- of all twice
  obtain ⟨W, hW⟩ : ∃ W, W = w2.alloc (.cells #[] 2) := ⟨_, rfl⟩
  have hbW : Below w2.heap.size w2 W := by rw [hW]; exact (Below.refl _ _).alloc (Nat.le_refl _) _
  have ho : W.ownsRow w2.heap.size 2 1 (.slice (some ⟨w2.heap.size, 0, none⟩) 0 0) 0 (([] : List Int).map I) := by rw [hW]; exact own_empty w2 2
  have H3 := Lib.hid (bel_trans H2.out hbW)
  have HO := Lib.hid ho
  have HS : Hid (w2.heap.size ≤ W.heap.size ∧ w.heap.size ≤ w2.heap.size) := Lib.hid ⟨hbW.size, H2.out.size⟩
  have HW := Lib.hid hW
  clear hW hbW ho H2
  go_wp2_with (first
    | (at_builtin; rw [← HW.out]; refine app_i rfl (.tmp 28) (.tmp 29) rfl w2.heap.size _ 0 [] rfl HO.out A0 n0 c0 xs rfl X.out.1 X.out.2.2 (X.out.2.1.later H3.out) (by omega) HS.out.1 ?_; intro v3 w3 ho3 hg3 _; have H4 := Lib.hid (bel_grown H3.out HO.out HS.out.2 hg3); have HO3 := Lib.hid ho3; have HS3 : Hid (w2.heap.size ≤ w3.heap.size) := Lib.hid (Nat.le_trans HS.out.1 hg3.size); clear ho3 hg3 HO H3)
    | (at_builtin; refine app_i rfl (.tmp 30) (.tmp 31) rfl w2.heap.size _ _ _ rfl HO3.out A0 n0 c0 xs rfl X.out.1 X.out.2.2 (X.out.2.1.later H4.out) (by omega) HS3.out ?_; intro v4 w4 ho4 hg4 _; have H5 := Lib.hid (bel_grown H4.out HO3.out HS.out.2 hg4); have HO4 := Lib.hid ho4; clear ho4 hg4 HO3 H4))
  have ho4 := HO4.out
  obtain ⟨A4, c4, rfl, hc4, _⟩ := own_len ho4
  rw [List.nil_append, Nat.zero_add] at ho4
  rw [Nat.zero_add] at hc4 ⊢
  have hlen : (xs ++ xs).length = n0 + n0 := by rw [List.length_append, X.out.1]
  have K := of_i (w := w4) (Ad := A4) (c := c4) (xs ++ xs) (by omega) (by omega) (lies_own ho4)
  rw [show ((xs ++ xs).mergeSort leI).getD (((xs ++ xs).length - 1) / 2) 0 = m from E.out.1, hlen] at K
  have HK := Lib.hid K
  clear K ho4 hlen HO4
  go_wp2_with fail
  refine HK.out.mono ?_
  rintro e w5 ⟨rfl, hb5⟩
  have H6 := Lib.hid (bel_trans H5.out hb5)
  clear hb5 H5 HK HW HS
  -- of all, and that
  obtain ⟨V, hV⟩ : ∃ V, V = w5.alloc (.cells #[] 2) := ⟨_, rfl⟩
  have hbV : Below w5.heap.size w5 V := by rw [hV]; exact (Below.refl _ _).alloc (Nat.le_refl _) _
  have ho : V.ownsRow w5.heap.size 2 1 (.slice (some ⟨w5.heap.size, 0, none⟩) 0 0) 0 (([] : List Int).map I) := by rw [hV]; exact own_empty w5 2
  have H7 := Lib.hid (bel_trans H6.out hbV)
  have HO := Lib.hid ho
  have HS : Hid (w5.heap.size ≤ V.heap.size ∧ w.heap.size ≤ w5.heap.size) := Lib.hid ⟨hbV.size, H6.out.size⟩
  have HW := Lib.hid hV
  clear hV hbV ho H6
  go_wp2_with (first
    | (at_builtin; rw [← HW.out]; refine app_i rfl (.tmp 37) (.tmp 38) rfl w5.heap.size _ 0 [] rfl HO.out A0 n0 c0 xs rfl X.out.1 X.out.2.2 (X.out.2.1.later H7.out) (by omega) HS.out.1 ?_; intro v6 w6 ho6 hg6 _; have H8 := Lib.hid (bel_grown H7.out HO.out HS.out.2 hg6); have HO6 := Lib.hid ho6; have HS6 : Hid (w5.heap.size ≤ w6.heap.size) := Lib.hid (Nat.le_trans HS.out.1 hg6.size); clear ho6 hg6 HO H7)
    | (at_builtin; refine app_i rfl (.tmp 39) (.tmp 41) rfl w5.heap.size _ _ _ rfl (own_below HO6.out ((Below.refl _ _).alloc (Nat.le_refl _) _) (Nat.le_refl _)) (some ⟨w6.heap.size, 0, none⟩) 1 1 [m] rfl rfl (fun h => by cases h) (lies_new w6 [I m] 2) (by omega) (by have := HS6.out; simp; omega) ?_; intro v7 w7 ho7 hg7 _; have H9 := Lib.hid (bel_grown (bel_trans H8.out ((Below.refl _ _).alloc (Nat.le_refl _) _)) (own_below HO6.out ((Below.refl _ _).alloc (Nat.le_refl _) _) (Nat.le_refl _)) HS.out.2 hg7); have HO7 := Lib.hid ho7; clear ho7 hg7 HO6 H8))
  have ho7 := HO7.out
  obtain ⟨A7, c7, rfl, hc7, _⟩ := own_len ho7
  rw [List.nil_append, Nat.zero_add] at ho7
  rw [Nat.zero_add] at hc7 ⊢
  have hlen : (xs ++ [m]).length = n0 + 1 := by rw [List.length_append, X.out.1]; rfl
  have K := of_i (w := w7) (Ad := A7) (c := c7) (xs ++ [m]) (by omega) (by omega) (lies_own ho7)
  rw [show ((xs ++ [m]).mergeSort leI).getD (((xs ++ [m]).length - 1) / 2) 0 = m from E.out.2, hlen] at K
  have HK := Lib.hid K
  clear K ho7 hlen HO7
  go_wp2_with fail
  refine HK.out.mono ?_
  rintro e w8 ⟨rfl, hb8⟩
  have H10 := Lib.hid (bel_trans H9.out hb8)
  clear hb8 H9 HK
  go_wp2
  go_ret
  exact ⟨by simp, H10.out⟩
end Go.Proofs.Ytleghbhgddlehaa
