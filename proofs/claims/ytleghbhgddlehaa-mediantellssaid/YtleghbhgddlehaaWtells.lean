/- MedianTells' walk. -/
import Derived.Test.YtleghbhgddlehaaRefs
namespace Go.Proofs.Ytleghbhgddlehaa
open Go.RowKit Go.Sort

set_option maxRecDepth 100000 in
set_option maxHeartbeats 4000000 in
theorem walk_tells (A0 : Option Addr) (n0 c0 : Nat) (q : Int) (w : World) (hz0 : IntsIn .i64 w A0 n0 c0) :
    Calls Try.prog 3 #[.slice A0 n0 c0, .int .i64 q] w fun e w' => e = .returned (.bool true) ∧ Below w.heap.size w w' := by
  obtain ⟨l1, l2, xs, hl, hwx, hx, hn⟩ := hz0
  have m1 : c0 ≤ 9223372036854775807 := by unfold maxLen at l2; omega
  have X := Lib.hid (And.intro hl (And.intro hx hn))
  clear hl hwx hx hn l2
  go_enter Try.func3, Try.ntmps3
  go_wp2_with fail
  refine (alive_any w).mono ?_
  rintro e w1 ⟨rfl, hb1⟩
  have H1 := Lib.hid hb1
  clear hb1
  by_cases q1 : 300 < n0
  · go_wp2_with fail
    refine (alive_any _).mono ?_
    rintro e w2 ⟨rfl, hb2⟩
    have H2 := Lib.hid (bel_trans H1.out hb2)
    clear hb2 H1
    go_wp2
    go_ret
    exact ⟨rfl, H2.out⟩
  have q2 : n0 ≤ 300 := by omega
  clear q1
  -- a copy of one's own
  obtain ⟨W, hW⟩ : ∃ W, W = w1.alloc (.cells #[] 2) := ⟨_, rfl⟩
  have hbW : Below w1.heap.size w1 W := by rw [hW]; exact (Below.refl _ _).alloc (Nat.le_refl _) _
  have ho : W.ownsRow w1.heap.size 2 1 (.slice (some ⟨w1.heap.size, 0, none⟩) 0 0) 0 (([] : List Int).map I) := by rw [hW]; exact own_empty w1 2
  have H2 := Lib.hid (bel_trans H1.out hbW)
  have HO := Lib.hid ho
  have HS : Hid (w1.heap.size ≤ W.heap.size ∧ w.heap.size ≤ w1.heap.size) := Lib.hid ⟨hbW.size, H1.out.size⟩
  have HW := Lib.hid hW
  clear hW hbW ho H1
  by_cases q0 : n0 = 0
  · subst q0
    obtain rfl : xs = [] := List.eq_nil_of_length_eq_zero X.out.1
    go_wp2_with (at_builtin; rw [← HW.out]; refine app_i rfl (.tmp 28) (.tmp 29) rfl w1.heap.size _ 0 [] rfl HO.out A0 0 c0 [] rfl rfl X.out.2.2 (.inl rfl) (by omega) HS.out.1 ?_; intro v2 w2 ho2 hg2 _; have H3 := Lib.hid (bel_grown H2.out HO.out HS.out.2 hg2); clear ho2 hg2 HO H2)
    refine (of_none_i _ _ _).mono ?_
    rintro e w3 ⟨rfl, rfl⟩
    go_wp2_with fail
    refine (rof_none _ _ _).mono ?_
    rintro e w3 ⟨rfl, rfl⟩
    go_wp2_with fail
    refine (sorted_none w2 A0 c0 X.out.2.2).mono ?_
    rintro e w3 ⟨A3, c3, rfl, hb3⟩
    have H4 := Lib.hid (bel_trans H3.out hb3)
    clear hb3 H3
    go_wp2_with fail
    refine (rsorted_any (w := w3) (A0 := A0) (c0 := c0) [] (by decide) (.inl rfl)).mono ?_
    rintro e w4 ⟨v4, rfl, ho4, hb4⟩
    obtain ⟨A4, c4, rfl, _, _⟩ := own_len ho4
    have H5 := Lib.hid (bel_trans H4.out hb4)
    clear hb4 H4 ho4
    go_wp2_with fail
    refine (rank_i (w := w4) (Ad := A0) (c := c0) q [] (by decide) (.inl rfl)).mono ?_
    rintro e w' ⟨rfl, rfl⟩
    go_wp2_with fail
    refine (rrank_any (w := w4) (Ad := A0) (c := c0) q [] (by decide) (.inl rfl)).mono ?_
    rintro e w' ⟨rfl, rfl⟩
    go_wp2_with fail
    refine (spread_none _ _ _).mono ?_
    rintro e w' ⟨rfl, rfl⟩
    go_wp2
    go_loop [95] (fun i => i = .int .i64 0) (fun _ => 0)
    case atStart => rfl
    case round =>
      obtain rfl := hrel
      go_wp2
      go_ret
      exact ⟨by simp, H5.out⟩
  · have t0 : ((n0 : Int) == 0) = false := by rw [beq_eq_false_iff_ne]; omega
    have q3 : 0 < n0 := by omega
    clear q0
    go_wp2_with (at_builtin; rw [← HW.out]; refine app_i rfl (.tmp 28) (.tmp 29) rfl w1.heap.size _ 0 [] rfl HO.out A0 n0 c0 xs rfl X.out.1 X.out.2.2 (X.out.2.1.later H2.out) (by omega) HS.out.1 ?_; intro v2 w2 ho2 hg2 _; have H3 := Lib.hid (bel_grown H2.out HO.out HS.out.2 hg2); have HO2 := Lib.hid ho2; clear ho2 hg2 HO H2)
    have ho2 := HO2.out
    obtain ⟨A2, c2, rfl, hc2, _⟩ := own_len ho2
    rw [List.nil_append, Nat.zero_add] at ho2
    rw [Nat.zero_add] at hc2 ⊢
    have HL2 := Lib.hid (lies_own ho2)
    clear ho2 HO2 HW HS
    -- Of, the document's
    have K := of_i (w := w2) (Ad := A0) (c := c0) xs (by rw [X.out.1]; omega) (by rw [X.out.1]; omega) (X.out.2.1.later H3.out)
    rw [show (xs.mergeSort leI).getD ((xs.length - 1) / 2) 0 = mid xs from rfl, X.out.1] at K
    have K2 := fun w (h : Below w2.heap.size w2 w) => rof_any (w := w) (Ad := A0) (c := c0) xs (by rw [X.out.1]; omega) (by rw [X.out.1]; omega) (X.out.2.1.later (bel_trans H3.out h))
    rw [X.out.1] at K2
    generalize mid xs = m at K K2
    have HK := Lib.hid K
    have HK2 := Lib.hid K2
    clear K K2
    go_wp2_with fail
    refine HK.out.mono ?_
    rintro e w3 ⟨rfl, hb3⟩
    have H4 := Lib.hid (And.intro (bel_trans H3.out hb3) hb3)
    clear hb3 HK
    go_wp2_with fail
    refine (HK2.out _ H4.out.2).mono ?_
    rintro e w4 ⟨rfl, hb4⟩
    have H5 := Lib.hid (And.intro (bel_trans H4.out.1 hb4) (HL2.out.later (bel_trans H4.out.2 hb4)))
    clear hb4 HK2 H4 H3 HL2
    -- Sorted, the document's
    have K := sorted_i (w := w4) (Ad := A0) (c := c0) xs (by rw [X.out.1]; omega) (by rw [X.out.1]; omega) (X.out.2.1.later H5.out.1)
    have K2 := fun w (h : Below w4.heap.size w4 w) => rsorted_any (w := w) (A0 := A0) (c0 := c0) xs (by rw [X.out.1]; omega) (X.out.2.1.later (bel_trans H5.out.1 h))
    have e1 := srt_min xs (by rw [X.out.1]; omega)
    have e2 := srt_max xs (by rw [X.out.1]; omega)
    obtain ⟨S, hS⟩ : ∃ S, S = xs.mergeSort leI := ⟨_, rfl⟩
    have hSl : S.length = n0 := by rw [hS, List.length_mergeSort, X.out.1]
    rw [← hS, X.out.1] at K K2
    rw [← hS] at e1 e2
    rw [X.out.1] at e2
    have HK := Lib.hid K
    have HK2 := Lib.hid K2
    have HE := Lib.hid (And.intro e1 (And.intro e2 hSl))
    clear K K2 e1 e2 hS hSl
    go_wp2_with fail
    refine HK.out.mono ?_
    rintro e w5 ⟨v5, rfl, ho5, hb5⟩
    obtain ⟨A5, c5, rfl, hc5, _⟩ := own_len ho5
    have H6 := Lib.hid (And.intro hb5 (And.intro (lies_own ho5) (H5.out.2.later hb5)))
    clear hb5 ho5 HK
    go_wp2_with fail
    refine (HK2.out _ H6.out.1).mono ?_
    rintro e w6 ⟨v6, rfl, ho6, hb6⟩
    obtain ⟨A6, c6, rfl, hc6, hm6⟩ := own_len ho6
    have H7 := Lib.hid (And.intro (bel_trans H5.out.1 (bel_trans H6.out.1 hb6)) (And.intro (H6.out.2.1.later hb6) (And.intro (H6.out.2.2.later hb6) (lies_own ho6))))
    have mc6 : c6 ≤ 9223372036854775807 := by unfold maxLen at hm6; omega
    clear hb6 ho6 HK2 H6 H5 hm6
    -- Rank, the document's; Spread
    have K := rank_i (w := w6) (Ad := A0) (c := c0) q xs (by rw [X.out.1]; omega) (X.out.2.1.later H7.out.1)
    have K2 := rrank_any (w := w6) (Ad := A0) (c := c0) q xs (by rw [X.out.1]; omega) (X.out.2.1.later H7.out.1)
    have K3 := spread_i (w := w6) (Ad := A0) (c := c0) xs (by rw [X.out.1]; omega) (by rw [X.out.1]; omega) (X.out.2.1.later H7.out.1)
    rw [X.out.1] at K K2 K3
    generalize xs.countP (fun y => decide (y < q)) = p1 at K K2
    generalize xs.countP (fun y => decide (y ≤ q)) = p2 at K K2
    obtain ⟨lo, hlo⟩ : ∃ lo, lo = Lib.minOf xs := ⟨_, rfl⟩
    obtain ⟨hi, hhi⟩ : ∃ hi, hi = Lib.maxOf xs := ⟨_, rfl⟩
    rw [← hlo, ← hhi] at K3
    have he := HE.out
    rw [← hlo, ← hhi] at he
    have HE2 := Lib.hid he
    have HK := Lib.hid K
    have HK2 := Lib.hid K2
    have HK3 := Lib.hid K3
    clear K K2 K3 hlo hhi he HE
    go_wp2_with fail
    refine HK.out.mono ?_
    rintro e w' ⟨rfl, rfl⟩
    go_wp2_with fail
    refine HK2.out.mono ?_
    rintro e w' ⟨rfl, rfl⟩
    go_wp2_with fail
    refine HK3.out.mono ?_
    rintro e w' ⟨rfl, rfl⟩
    clear HK HK2 HK3
    go_wp2
    go_loopw [95] (fun i wr => ∃ k : Nat, k ≤ n0 ∧ i = .int .i64 k ∧ Hid (Below w6.heap.size w6 wr)) (fun i _ => n0 - (intOf i).toNat)
    case atStart => exact ⟨0, Nat.zero_le _, rfl, Lib.hid (Below.refl _ _)⟩
    case round =>
      obtain ⟨k, hk, rfl, HB⟩ := hrel
      by_cases hlt : k < n0
      · obtain ⟨x, hx⟩ : ∃ x, xs[k]? = some x := ⟨xs[k]'(by have := X.out.1; omega), List.getElem?_eq_getElem _⟩
        obtain ⟨y, hy⟩ : ∃ y, S[k]? = some y := ⟨S[k]'(by have := HE2.out.2.2; omega), List.getElem?_eq_getElem _⟩
        have hx' : (xs.map I)[k]? = some (I x) := by rw [List.getElem?_map, hx]; rfl
        have hy' : (S.map I)[k]? = some (I y) := by rw [List.getElem?_map, hy]; rfl
        obtain ⟨g0, o0, rfl, d0⟩ := (X.out.2.1.later (bel_trans H7.out.1 HB.out)).cell hx'
        obtain ⟨g2, o2, rfl, d2⟩ := (H7.out.2.2.1.later HB.out).cell hx'
        obtain ⟨g5, o5, rfl, d5⟩ := (H7.out.2.1.later HB.out).cell hy'
        obtain ⟨g6, o6, rfl, d6⟩ := (H7.out.2.2.2.later HB.out).cell hy'
        clear hx hy hx' hy'
        go_wp2_with fail
        go_quiet (fail)
        go_wp2
        exact ⟨⟨k + 1, by omega, by go_num, Lib.hid (below_drewN HB.out _)⟩, by simp [intOf]; omega⟩
      · obtain ⟨j, hj⟩ : ∃ j, j = n0 - 1 := ⟨_, rfl⟩
        have hjj : (n0 : Int) - 1 = (j : Int) := by omega
        obtain ⟨g6, o6, rfl, d6⟩ := (H7.out.2.2.2.later HB.out).cell (k := 0) (v := I lo) (by rw [map_getD I S 0 0 (by have := HE2.out.2.2; omega), ← HE2.out.1])
        have d7 : wr.cell? ⟨g6, o6 + j, none⟩ = some (.int .i64 hi) := src_cell (H7.out.2.2.2.later HB.out) (by rw [map_getD I S j 0 (by have := HE2.out.2.2; omega), hj, ← HE2.out.2.1])
        have hj2 : j < n0 := by omega
        rw [Nat.add_zero] at d6
        clear hj
        go_wp2
        go_ret
        exact ⟨by simp, bel_trans H7.out.1 HB.out⟩
end Go.Proofs.Ytleghbhgddlehaa
