/- MedianMoves' walk. -/
import Derived.Test.YtleghbhgddlehaaThree
import Derived.Deep.QuietTactic
import Derived.BigQuiet
namespace Go.Proofs.Ytleghbhgddlehaa
open Go.RowKit Go.Sort

theorem own_at {w : World} {base e n g c k : Nat} {cs : List Value} {x : Value} (h : w.ownsRow base e 1 (.slice (some ⟨g, 0, none⟩) n c) n cs) (hx : cs[k]? = some x) : w.cell? ⟨g, k, none⟩ = some x := by
  obtain ⟨g', e, hg⟩ := own_one h hx
  injection e with e
  injection e with e _ _
  subst e
  exact hg
theorem below_drewN {B : Nat} {a w : World} (h : Below B a w) (q : Nat) : Below B a (w.drewN q) := ⟨h.os, h.tape, h.output, h.size, h.block⟩
set_option maxRecDepth 100000 in
set_option maxHeartbeats 4000000 in
theorem walk_moves (A0 : Option Addr) (n c0 : Nat) (A1 : Option Addr) (m c1 : Nat) (by' : Int) (w : World) (hz0 : IntsIn .i32 w A0 n c0) (hz1 : IntsIn .u16 w A1 m c1) (b1 : -2147483648 ≤ by') (b2 : by' ≤ 2147483647) :
    Calls Try.prog 6 #[.slice A0 n c0, .slice A1 m c1, .int .i32 by'] w fun e w' => e = .returned (.bool true) ∧ Below w.heap.size w w' := by
  obtain ⟨l1, l2, xs, hl, hwx, hx, hn⟩ := hz0
  obtain ⟨l3, l4, ss, hls, hws, hs, hns⟩ := hz1
  have m1 : c0 ≤ 9223372036854775807 := by unfold maxLen at l2; omega
  have m2 : c1 ≤ 9223372036854775807 := by unfold maxLen at l4; omega
  have X := Lib.hid (And.intro hl (And.intro hx hwx))
  have Y := Lib.hid (And.intro hls (And.intro hs hws))
  clear hl hwx hx hn hls hws hs hns l2 l4
  go_enter Try.func6, Try.ntmps6
  go_wp2_with fail
  refine (alive_any w).mono ?_
  rintro e w1 ⟨rfl, hb1⟩
  have H1 := Lib.hid hb1
  clear hb1
  by_cases q1 : n = 0 ∨ 200 < n ∨ 200 < m
  · have q3 : n = 0 ∨ (¬ n = 0 ∧ 200 < n) ∨ (¬ n = 0 ∧ n ≤ 200 ∧ 200 < m) := by omega
    clear q1
    rcases q3 with q1 | ⟨q1, q2⟩ | ⟨q1, q2, q4⟩
    · subst q1
      go_wp2_with fail
      refine (alive_any _).mono ?_
      rintro e w2 ⟨rfl, hb2⟩
      have H2 := Lib.hid (bel_trans H1.out hb2)
      clear hb2 H1
      go_wp2
      go_ret
      exact ⟨rfl, H2.out⟩
    all_goals
      have t0 : ((n : Int) == 0) = false := by rw [beq_eq_false_iff_ne]; omega
      go_wp2_with fail
      refine (alive_any _).mono ?_
      rintro e w2 ⟨rfl, hb2⟩
      have H2 := Lib.hid (bel_trans H1.out hb2)
      clear hb2 H1
      go_wp2
      go_ret
      exact ⟨rfl, H2.out⟩
  have t0 : ((n : Int) == 0) = false := by rw [beq_eq_false_iff_ne]; omega
  have q2 : n ≤ 200 := by omega
  have q3 : 0 < n := by omega
  have q4 : m ≤ 200 := by omega
  clear q1
  go_wp2
  go_loopw [7, 8, 9, 43] (fun va vb vc i wr => ∃ k : Nat, k ≤ n ∧ i = .int .i64 k ∧ Hid (Rows3 w1 wr k va (xs.take k) k vb ((xs.take k).map (· + by')) k vc ((xs.take k).map (fun x => -x)))) (fun _ _ _ i _ => n - (intOf i).toNat)
  case atStart => exact ⟨0, Nat.zero_le _, rfl, Lib.hid ⟨World.ownsRow_nil _ _ _ _, World.ownsRow_nil _ _ _ _, World.ownsRow_nil _ _ _ _, (fun p h => by cases h), (fun p h => by cases h), (fun p h => by cases h), Below.refl _ _⟩⟩
  case round =>
    obtain ⟨k, hk, rfl, R⟩ := hrel
    obtain ⟨wo, rfl⟩ : ∃ wo, wo = wr := ⟨_, rfl⟩
    by_cases hlt : k < n
    · obtain ⟨x, hx⟩ : ∃ x, xs[k]? = some x := ⟨xs[k]'(by have := X.out.1; omega), List.getElem?_eq_getElem _⟩
      obtain ⟨x1, x2⟩ := bounds_i32 (X.out.2.2 x (List.mem_of_getElem? hx))
      obtain ⟨g0, o0, rfl, hcell⟩ := (X.out.2.1.later (bel_trans H1.out R.out.bel)).cell (k := k) (v := .int .i32 x) (by rw [List.getElem?_map, hx]; rfl)
      have ht : xs.take (k + 1) = xs.take k ++ [x] := by rw [List.take_succ_eq_append_getElem (by have := X.out.1; omega), (List.getElem?_eq_some_iff.1 hx).2]
      have HT := Lib.hid ht
      clear hx ht
      go_wp2_with (first
        | (at_builtin; refine app_i rfl (.tmp 47) (.tmp 50) rfl w1.heap.size _ _ _ rfl (R.out.later ((Below.refl _ _).alloc (Nat.le_refl _) _)).ra (some ⟨wo.heap.size, 0, none⟩) 1 1 [x] rfl rfl (fun h => by cases h) (lies_new wo [I x] 2) (by omega) (by have := R.out.bel.size; simp; omega) ?_; intro v7 w7 ho7 hg7 ha7; have R7 := Lib.hid ((R.out.later ((Below.refl _ _).alloc (Nat.le_refl _) _)).snoc ho7 hg7 ha7).rot; clear ho7 hg7 ha7 R)
        | (at_builtin; refine app_i rfl (.tmp 52) (.tmp 58) rfl w1.heap.size _ _ _ rfl (R7.out.later ((Below.refl _ _).alloc (Nat.le_refl _) _)).ra (some ⟨w7.heap.size, 0, none⟩) 1 1 [x + by'] rfl rfl (fun h => by cases h) (lies_new w7 [I (x + by')] 2) (by omega) (by have := R7.out.bel.size; simp; omega) ?_; intro v8 w8 ho8 hg8 ha8; have R8 := Lib.hid ((R7.out.later ((Below.refl _ _).alloc (Nat.le_refl _) _)).snoc ho8 hg8 ha8).rot; clear ho8 hg8 ha8 R7)
        | (at_builtin; refine app_i rfl (.tmp 60) (.tmp 64) rfl w1.heap.size _ _ _ rfl (R8.out.later ((Below.refl _ _).alloc (Nat.le_refl _) _)).ra (some ⟨w8.heap.size, 0, none⟩) 1 1 [-x] rfl rfl (fun h => by cases h) (lies_new w8 [I (-x)] 2) (by omega) (by have := R8.out.bel.size; simp; omega) ?_; intro v9 w9 ho9 hg9 ha9; have R9 := Lib.hid ((R8.out.later ((Below.refl _ _).alloc (Nat.le_refl _) _)).snoc ho9 hg9 ha9).rot; clear ho9 hg9 ha9 R8))
      refine ⟨⟨k + 1, by omega, by go_num, ?_⟩, by simp [intOf]; omega⟩
      refine Lib.hid ?_
      rw [HT.out, List.map_append, List.map_append]
      exact R9.out
    · obtain rfl : k = n := by omega
      have e : xs.take k = xs := List.take_of_length_le (by have := X.out.1; omega)
      have R2 := R.out
      rw [e] at R2
      obtain ⟨Aa, ca, rfl, hca, hma⟩ := own_len R2.ra
      obtain ⟨gb, cb, rfl, hcb, hb0⟩ := own_cell (k := 0) (x := I ((xs.map (· + by')).getD 0 0)) R2.rb (map_getD I _ 0 0 (by rw [List.length_map]; have := X.out.1; omega))
      obtain ⟨Ac, cc, rfl, hcc, hmc⟩ := own_len R2.rc
      have R3 := Lib.hid R2.rot
      have mb : cb ≤ 9223372036854775807 := by obtain ⟨_, _, e, _, h⟩ := own_len R2.rb; injection e with _ _ e; subst e; unfold maxLen at h; omega
      clear R2 R hb0 hmc e hlt
      go_wp2
      go_loopw [69] (fun i wr => ∃ (j : Nat) (bs : List Int), j ≤ m ∧ i = .int .i64 j ∧ Hid (Rows3 w1 wr k (.slice (some ⟨gb, 0, none⟩) k cb) bs k (.slice Ac k cc) (xs.map (fun x => -x)) k (.slice Aa k ca) xs ∧ bs.Perm (xs.map (· + by')))) (fun i _ => m - (intOf i).toNat)
      case atStart => exact ⟨0, _, Nat.zero_le _, rfl, Lib.hid ⟨R3.out, List.Perm.refl _⟩⟩
      case round =>
        clear R3
        obtain ⟨j, bs, hj, rfl, R⟩ := hrel
        by_cases hlt : j < m
        · obtain ⟨s, hs⟩ : ∃ s, ss[j]? = some s := ⟨ss[j]'(by have := Y.out.1; omega), List.getElem?_eq_getElem _⟩
          obtain ⟨s1, s2⟩ := bounds_u16 (Y.out.2.2 s (List.mem_of_getElem? hs))
          obtain ⟨g1, o1, rfl, hcell⟩ := (Y.out.2.1.later (bel_trans H1.out R.out.1.bel)).cell (k := j) (v := .int .u16 s) (by rw [List.getElem?_map, hs]; rfl)
          clear hs
          obtain ⟨x, hx⟩ : ∃ x, x = j % k := ⟨_, rfl⟩
          obtain ⟨y, hy⟩ : ∃ y, y = s.toNat % k := ⟨_, rfl⟩
          have hxk : x < k := by rw [hx]; exact Nat.mod_lt _ q3
          have hyk : y < k := by rw [hy]; exact Nat.mod_lt _ q3
          have x1 : (j : Int) % (k : Int) = (x : Int) := by rw [hx]; exact (Int.natCast_emod j k).symm
          have x2 : (j : Int).tmod (k : Int) = (x : Int) := by rw [Int.tmod_eq_emod_of_nonneg (by omega)]; exact x1
          have y1 : s % (k : Int) = (y : Int) := by rw [hy, Int.natCast_emod, Int.toNat_of_nonneg s1]
          have y2 : s.tmod (k : Int) = (y : Int) := by rw [Int.tmod_eq_emod_of_nonneg s1]; exact y1
          clear hx hy
          go_wp2_with fail
          go_quiet (fail)
          obtain ⟨W, hW⟩ : ∃ W, W = wr.drewN nq := ⟨_, rfl⟩
          rw [← hW]
          have R2 := Lib.hid (And.intro (R.out.1.later (by rw [hW]; exact below_drewN (Below.refl _ _) _ : Below wr.heap.size wr W)) R.out.2)
          clear hW x1 x2 y1 y2 R hcell
          have hbl : bs.length = k := by have := R2.out.1.ra.1; simpa using this
          have u1 := own_at R2.out.1.ra (map_getD I bs x 0 (by omega))
          have u2 := own_at R2.out.1.ra (map_getD I bs y 0 (by omega))
          have f1 : W.frozen? ⟨gb, x, none⟩ = false := by obtain ⟨_, _, cur, hg⟩ := own_lt R2.out.1.ra rfl; exact frozen_row hg x
          have f2 : W.frozen? ⟨gb, y, none⟩ = false := by obtain ⟨_, _, cur, hg⟩ := own_lt R2.out.1.ra rfl; exact frozen_row hg y
          obtain ⟨u, hu⟩ : ∃ u, u = bs.getD x 0 := ⟨_, rfl⟩
          obtain ⟨v, hv⟩ : ∃ v, v = bs.getD y 0 := ⟨_, rfl⟩
          rw [← hu] at u1
          rw [← hv] at u2
          obtain ⟨z, u3⟩ : ∃ z, (W.setCell ⟨gb, x, none⟩ (.int .i64 v)).cell? ⟨gb, y, none⟩ = some (.int .i64 z) := ⟨_, own_at (own_set R2.out.1.ra v) (map_getD I (bs.set x v) y 0 (by rw [List.length_set]; omega))⟩
          have HU := Lib.hid (And.intro hu (And.intro hv hbl))
          clear hu hv hbl
          go_wp2_with fail
          go_region
          go_wp2
          have RS := R2.out.1.swapped (i := x) (j := y)
          rw [← HU.out.2.1, ← HU.out.1] at RS
          exact ⟨⟨j + 1, swap bs x y, by omega, by go_num, Lib.hid ⟨RS.later (Below.refl _ _).drew, (swap_perm bs x y (by rw [HU.out.2.2]; exact hxk) (by rw [HU.out.2.2]; exact hyk)).trans R2.out.2⟩⟩, by simp [intOf]; omega⟩
        · have hlen : bs.length = k := by have := R.out.1.ra.1; simpa using this
          have k0 : 0 < xs.length := by rw [X.out.1]; exact q3
          have pb := mid_perm R.out.2
          rw [mid_shift xs by' k0] at pb
          have pn := mid_neg xs k0
          -- in their order
          have K := of_i (w := wr) (Ad := Aa) (c := ca) xs k0 (by rw [X.out.1]; omega) (lies_own R.out.1.rc)
          rw [show (xs.mergeSort leI).getD ((xs.length - 1) / 2) 0 = mid xs from rfl, X.out.1] at K
          have hmb : -2147483648 ≤ mid xs ∧ mid xs ≤ 2147483647 := bounds_i32 (X.out.2.2 _ (mid_mem xs k0))
          generalize mid xs = a at K pb hmb
          obtain ⟨a1, a2⟩ := hmb
          have HK := Lib.hid K
          clear K
          go_wp2_with fail
          refine HK.out.mono ?_
          rintro e w2 ⟨rfl, hb2⟩
          have R2 := Lib.hid (R.out.1.later hb2)
          clear hb2 HK
          -- in any order, all moved
          have K := of_i (w := w2) (Ad := some ⟨gb, 0, none⟩) (c := cb) bs (by omega) (by omega) (lies_own R2.out.ra)
          rw [show (bs.mergeSort leI).getD ((bs.length - 1) / 2) 0 = a + by' from pb, hlen] at K
          have HK := Lib.hid K
          clear K pb
          go_wp2_with fail
          refine HK.out.mono ?_
          rintro e w3 ⟨rfl, hb3⟩
          have R3 := Lib.hid (R2.out.later hb3)
          clear hb3 HK R2
          -- of the other sign
          obtain ⟨t, ht⟩ : ∃ t, t = (xs.mergeSort leI).getD (k / 2) 0 := ⟨_, rfl⟩
          rw [X.out.1, ← ht] at pn
          have K := of_i (w := w3) (Ad := Ac) (c := cc) (xs.map (fun x => -x)) (by rw [List.length_map]; exact k0) (by rw [List.length_map, X.out.1]; omega) (lies_own R3.out.rb)
          rw [show ((xs.map (fun x => -x)).mergeSort leI).getD (((xs.map (fun x => -x)).length - 1) / 2) 0 = -t from pn, List.length_map, X.out.1] at K
          have HK := Lib.hid K
          clear K pn
          go_wp2_with fail
          refine HK.out.mono ?_
          rintro e w4 ⟨rfl, hb4⟩
          have R4 := Lib.hid (R3.out.later hb4)
          clear hb4 HK R3
          -- all in order
          have K := sorted_i (w := w4) (Ad := Aa) (c := ca) xs k0 (by rw [X.out.1]; omega) (lies_own R4.out.rc)
          rw [X.out.1] at K
          have HK := Lib.hid K
          clear K
          obtain ⟨h2, hh2⟩ : ∃ h2, h2 = k / 2 := ⟨_, rfl⟩
          have hk2 : (k : Int) / 2 = (h2 : Int) := by omega
          have hlt2 : h2 < k := by omega
          have tb : -2147483648 ≤ t ∧ t ≤ 2147483647 := by
            refine bounds_i32 (X.out.2.2 t ?_)
            rw [ht]
            have := map_getD (fun x : Int => Value.int .i64 x) (xs.mergeSort leI) (k / 2) 0 (by rw [List.length_mergeSort, X.out.1]; omega)
            have hm : (xs.mergeSort leI).getD (k / 2) 0 ∈ xs.mergeSort leI := by
              rw [List.getD_eq_getElem?_getD, List.getElem?_eq_getElem (by rw [List.length_mergeSort, X.out.1]; omega)]
              exact List.getElem_mem _
            exact List.mem_mergeSort.1 hm
          obtain ⟨t1, t2⟩ := tb
          have HT := Lib.hid (show ((xs.mergeSort leI).map I)[h2]? = some (I t) by rw [map_getD I _ h2 0 (by rw [List.length_mergeSort, X.out.1]; omega), ht, hh2])
          clear hh2 ht
          go_wp2_with fail
          refine HK.out.mono ?_
          rintro e w5 ⟨v5, rfl, ho5, hb5⟩
          obtain ⟨g5, c5, rfl, hc5, hcell⟩ := own_cell ho5 HT.out
          have H5 := Lib.hid (bel_trans H1.out (R4.out.later hb5).bel)
          clear hb5 ho5 HK
          go_wp2
          go_ret
          exact ⟨by simp, H5.out⟩
end Go.Proofs.Ytleghbhgddlehaa
