/- LexJoins' walk. -/
import Derived.Test.YtclcnmmhmjbjjaaDoorWjoins0
import Derived.BigQuiet
import Derived.StillTailTactics
import Derived.IntWalk
namespace Go.Proofs.Lx
theorem linesFrom_num : ∀ (p : List Bs) (i : Nat) (acc L : List Ln), (∀ m ∈ acc, m.1 ≤ i) → linesFrom i acc p = .good L → ∀ m ∈ L, m.1 ≤ i + p.length
  | [], i, acc, L, ha, h => by
    simp [linesFrom] at h; subst h
    exact fun m hm => by have := ha m hm; simp; omega
  | q :: p, i, acc, L, ha, h => by
    rw [linesFrom] at h
    split at h
    · intro m hm
      have := linesFrom_num p (i + 1) _ L (by
        unfold addL
        split
        · exact fun m hm => by have := ha m hm; omega
        · intro m hm
          simp at hm
          rcases hm with hm | rfl
          · have := ha m hm; omega
          · exact Nat.le_refl _) h m hm
      simp; omega
    · cases h
theorem res_num (t : Bs) (L : List Ln) (h : res t = .good L) : ∀ m ∈ L, m.1 ≤ t.count 10 + 1 := fun m hm => by
  have := linesFrom_num _ 0 [] L (by simp) h m hm
  rw [linesOf_len] at this; omega
end Go.Proofs.Lx
namespace Go.Proofs.YtclcnmmhmjbjjaaDoor
open Go.RowKit Go.Proofs.Lx

theorem still_tail {P : Program} {id : Nat} {Q : Exit → Act → World → Prop} {a : Act} {w : World} {l : List Oper} (n : Nat) (hm : P.follows .mixedOrders = true) (hB : Region.lexTailB .any l.toArray n = true)
    (h : wpStill P l.toArray w.drew (fun a' => wpList P l.toArray Q (l.drop n) a' w.drew) (l.take n) a) : (Code.region id l.toArray true).wp P Q a w :=
  wp_region_still_tail n hm hB h
theorem count_any (s : ByteArray) (w : World) : Calls Tryd.prog 20 #[.string s, .string ⟨#[10]⟩] w fun e w' => e = .returned (.int .i64 ((s.data.toList.count 10 : Nat) : Int)) ∧ w = w' := by
  refine (Tryd.strings_Count_one s 10 w).mono ?_
  rintro e w' ⟨rfl, rfl⟩
  exact ⟨rfl, rfl⟩

set_option maxRecDepth 100000 in
set_option maxHeartbeats 8000000 in
theorem joins_main (s0 s1 : ByteArray) (w : World) (hm : Mx w) (h0 : (s0.size : Int) ≤ 2000) (h1 : (s1.size : Int) ≤ 2000) (L M : List Ln) (gl : Gives s0 L 0 0) (gr : Gives s1 M 0 0) (c : Nat) (hc : s0.data.toList.count 10 = c) (gj : Gives (s0 ++ ⟨#[10]⟩ ++ s1) (L ++ shiftL (c + 1) M) 0 0)
    (hcz : c ≤ 2000) (hLz : L.length ≤ 1000000) (hMz : M.length ≤ 1000000) (hok : ∀ (j m : Nat) (ws : List Bs), (L ++ shiftL (c + 1) M)[j]? = some (m, ws) → m ≤ 100000 ∧ 0 < ws.length ∧ ws.length ≤ 1000000 ∧ (Lib.join ws [32]).length ≤ 1000000) :
    Calls Tryd.prog 8 #[.string s0, .string s1] w fun e w' => e = .returned (.bool true) ∧ Below w.heap.size w w' := by
  have HM := Lib.hid hm
  have KL := Lib.hid gl
  have KR := Lib.hid gr
  have KJ := Lib.hid gj
  have KC : Hid (∀ w, Calls Tryd.prog 20 #[.string s0, .string ⟨#[10]⟩] w fun e w' => e = .returned (.int .i64 (c : Int)) ∧ w = w') := fun w => by
    have := count_any s0 w
    rw [hc] at this; exact this
  have HOK := Lib.hid hok
  have hlen : (L ++ shiftL (c + 1) M).length = L.length + M.length := by simp [shiftL]
  obtain ⟨N, hN⟩ : ∃ N, N = L ++ shiftL (c + 1) M := ⟨_, rfl⟩
  rw [← hN] at KJ HOK hlen
  have HN := Lib.hid hN
  have d0 : decide ((2000 : Int) < (s0.size : Int)) = false := decide_eq_false (by omega)
  have d1 : decide ((2000 : Int) < (s1.size : Int)) = false := decide_eq_false (by omega)
  have HLN := Lib.hid hlen
  clear hm gl gr gj hok hN hc hlen
  go_enter Tryd.func8, Tryd.ntmps8
  go_wp2_with fail
  refine (KL.out w HM.out).mono ?_
  rintro e w1 ⟨v1, hv1, rfl, hb1⟩
  have H1 := Lib.hid hv1
  obtain ⟨A1, c1, rfl, hA1⟩ := hv1.len
  clear hv1
  go_wp2_with fail
  refine (KR.out w1 (HM.out.below hb1 (Nat.le_refl _))).mono ?_
  rintro e w2 ⟨v2, hv2, rfl, hb2⟩
  have H2 := Lib.hid hv2
  obtain ⟨A2, c2, rfl, hA2⟩ := hv2.len
  clear hv2
  have hb12 : Below w.heap.size w w2 := hb1.trans (hb2.mono hb1.size)
  go_wp2_with fail
  refine (KJ.out w2 (HM.out.below hb12 (Nat.le_refl _))).mono ?_
  rintro e w3 ⟨v3, hv3, rfl, hb3⟩
  have H3 := Lib.hid hv3
  obtain ⟨A3, c3, rfl, hA3⟩ := hv3.len
  clear hv3
  have hb13 : Below w.heap.size w w3 := hb12.trans (hb3.mono hb12.size)
  have HM3 := Lib.hid (HM.out.below hb13 (Nat.le_refl _))
  have G1 : Hid (IsLines 41 w3 w.heap.size (.slice A1 L.length c1) L) := (H1.out.below hb2 (Nat.le_refl _)).below hb3 (Nat.le_refl _)
  have G2 : Hid (IsLines 41 w3 w1.heap.size (.slice A2 M.length c2) M) := H2.out.below hb3 (Nat.le_refl _)
  clear H1 H2 KL KR KJ HM hb1 hb2 hb3 hb12
  have hn1 : (N.length : Int) = (L.length : Int) + (M.length : Int) := by have := HLN.out; omega
  have hnn : ((N.length : Int) != (L.length : Int) + (M.length : Int)) = false := bneF hn1
  clear hn1
  go_wp2_with (go_at_call 20; refine (KC.out _).mono ?_; rintro e w' ⟨rfl, rfl⟩)
  go_loopw [76] (fun i wr => ∃ k : Nat, k ≤ N.length ∧ i = .int .i64 k ∧ Below w3.heap.size w3 wr) (fun i _ => N.length - (intOf i).toNat)
  case atStart => exact ⟨0, Nat.zero_le _, rfl, Below.refl _ _⟩
  case round =>
    obtain ⟨k, hk, rfl, hbr⟩ := hrel
    by_cases hkN : k < N.length
    · obtain ⟨⟨m, ws⟩, hm⟩ : ∃ x, N[k]? = some x := ⟨_, List.getElem?_eq_getElem hkN⟩
      obtain ⟨q1, q2, q3, q4⟩ := HOK.out k m ws hm
      obtain ⟨g3, y3, e3, _, hg3, r3⟩ := (H3.out.below hbr (Nat.le_refl _)).at_ (by omega)
      injection e3 with e3 _ e4
      subst e3 e4
      obtain ⟨a1, u, a2, a3⟩ := r3 k m ws hm
      rw [Nat.mul_comm] at a1 a2
      obtain ⟨B3, y5, rfl, _⟩ := a3.len
      have HU := Lib.hid a3
      have hwr := hbr.size
      by_cases hkL : (k : Int) < (L.length : Int)
      · have hmL : L[k]? = some (m, ws) := by
          have e := HN.out
          rw [e, List.getElem?_append_left (by omega)] at hm
          exact hm
        obtain ⟨g1, y1, e1, _, hg1, r1⟩ := (G1.out.below hbr (Nat.le_refl _)).at_ (by omega)
        injection e1 with e1 _ e2
        subst e1 e2
        obtain ⟨d1', u1, d2, d3⟩ := r1 k m ws hmL
        rw [Nat.mul_comm] at d1' d2
        obtain ⟨B1, y6, rfl, _⟩ := d3.len
        have HU1 := Lib.hid d3
        clear r1 r3 d3 a3 hm hmL
        have o1 := World.block_lt_of_cell? _ _ a1
        have o2 := World.block_lt_of_cell? _ _ d1'
        simp only at o1 o2
        go_wp2_with fail
        obtain ⟨W5, hW5⟩ : ∃ W5, W5 = ((wr.alloc (.cells #[.int .i64 (m : Int), .slice B3 ws.length y5] 41)).alloc (.cells #[.int .i64 (m : Int), .slice B1 ws.length y6] 41)) := ⟨_, rfl⟩
        have b5 : Below wr.heap.size wr W5 := by rw [hW5]; exact ((Below.refl _ _).alloc (Nat.le_refl _) _).alloc (by simp) _
        have l1 : W5.cell? ⟨wr.heap.size, 0, none⟩ = some (.int .i64 (m : Int)) := by rw [hW5]; simp
        have l2 : W5.cell? ⟨wr.heap.size, 1, none⟩ = some (.slice B3 ws.length y5) := by rw [hW5]; simp
        have l3 : W5.cell? ⟨wr.heap.size + 1, 0, none⟩ = some (.int .i64 (m : Int)) := by rw [hW5]; simp
        have l4 : W5.cell? ⟨wr.heap.size + 1, 1, none⟩ = some (.slice B1 ws.length y6) := by rw [hW5]; simp
        rw [← hW5]
        clear hW5
        have cJ : ∀ d os, Calls Tryd.prog 21 #[.slice B3 ws.length y5, .string ⟨#[32]⟩] (Sort.grow (redrawn W5 d) os) fun e w'' => e = .returned (.string ⟨(Lib.join ws [32]).toArray⟩) ∧ ∃ p : Regrown, w'' = Sort.grow (redrawn W5 p.d) p.os := fun d os => Calls.regrown_of (join_any _ ws _ _ ((HU.out.below b5 (Nat.le_refl _)).below (below_regrown W5 d os) (Nat.le_refl _)) q3 q4)
        have cK : ∀ d os, Calls Tryd.prog 21 #[.slice B1 ws.length y6, .string ⟨#[32]⟩] (Sort.grow (redrawn W5 d) os) fun e w'' => e = .returned (.string ⟨(Lib.join ws [32]).toArray⟩) ∧ ∃ p : Regrown, w'' = Sort.grow (redrawn W5 p.d) p.os := fun d os => Calls.regrown_of (join_any _ ws _ _ ((HU1.out.below b5 (Nat.le_refl _)).below (below_regrown W5 d os) (Nat.le_refl _)) q3 q4)
        have m1 := fun d os => cell_regrown l1 d os
        have m2 := fun d os => cell_regrown l2 d os
        have m3 := fun d os => cell_regrown l3 d os
        have m4 := fun d os => cell_regrown l4 d os
        obtain ⟨J, hJ⟩ : ∃ J, J = (⟨(Lib.join ws [32]).toArray⟩ : ByteArray) := ⟨_, rfl⟩
        rw [← hJ] at cJ cK
        have bz : ((ws.length : Int) == 0) = false := beqF (by omega)
        clear hJ l1 l2 l3 l4 a1 a2 d1' d2
        refine wp_region_quiet_below (by kernel_rfl) (by kernel_rfl) ?_
        repeat (go_big_quiet_step (first | with_reducible exact cJ _ _ | with_reducible exact cK _ _))
        refine wpQuiet_nil ?_
        intro _ hw'
        obtain ⟨⟨dq, osq⟩, hw''⟩ := hw'
        subst hw''
        go_wp2
        go_roundw
        case rel => exact ⟨k + 1, by omega, by go_num, (hbr.trans (b5.mono hwr)).trans ((below_regrown W5 dq osq).mono (Nat.le_trans hwr b5.size))⟩
        case measure => simp [intOf]; omega
      · obtain ⟨j, hj⟩ : ∃ j : Nat, k = L.length + j := ⟨k - L.length, by omega⟩
        have hkj : (k : Int) - (L.length : Int) = (j : Int) := by omega
        have hjM : j < M.length := by have := HLN.out; omega
        obtain ⟨⟨m', ws'⟩, hm'⟩ : ∃ x, M[j]? = some x := ⟨_, List.getElem?_eq_getElem hjM⟩
        have hms : m = m' + (c + 1) ∧ ws = ws' := by
          have e := HN.out
          rw [e, List.getElem?_append_right (by omega), show k - L.length = j by omega, shiftL, List.getElem?_map, hm'] at hm
          simp at hm
          exact ⟨hm.1.symm, hm.2.symm⟩
        obtain ⟨hms, rfl⟩ := hms
        have hnm : (m' : Int) + ((c : Int) + 1) = (m : Int) := by omega
        obtain ⟨g1, y1, e1, _, hg1, r1⟩ := (G2.out.below hbr (Nat.le_refl _)).at_ (by omega)
        injection e1 with e1 _ e2
        subst e1 e2
        obtain ⟨d1', u1, d2, d3⟩ := r1 j m' ws hm'
        rw [Nat.mul_comm] at d1' d2
        obtain ⟨B1, y6, rfl, _⟩ := d3.len
        have HU1 := Lib.hid d3
        clear r1 r3 d3 a3 hm hm' hms
        have o1 := World.block_lt_of_cell? _ _ a1
        have o2 := World.block_lt_of_cell? _ _ d1'
        have HKJ := Lib.hid hj
        clear hj
        simp only at o1 o2
        go_wp2_with fail
        have hw1 : IntKind.i64.wrap (j : Int) = (j : Int) := IntWalk.i64_in _ (by omega)
        have hw2 : IntKind.i64.wrap (m : Int) = (m : Int) := IntWalk.i64_in _ (by omega)
        refine still_tail 19 (by kernel_rfl) (by kernel_rfl) ?_
        simp only [List.take_succ_cons, List.take_zero, List.drop_succ_cons, List.drop_zero]
        repeat still_step
        refine wpStill_nil ?_
        clear hw1 hw2
        go_wp2_with fail
        obtain ⟨W5, hW5⟩ : ∃ W5, W5 = ((wr.alloc (.cells #[.int .i64 (m : Int), .slice B3 ws.length y5] 41)).alloc (.cells #[.int .i64 (m : Int), .slice B1 ws.length y6] 41)).drew := ⟨_, rfl⟩
        have b5 : Below wr.heap.size wr W5 := by rw [hW5]; exact (((Below.refl _ _).alloc (Nat.le_refl _) _).alloc (by simp) _).drew
        have l1 : W5.cell? ⟨wr.heap.size, 0, none⟩ = some (.int .i64 (m : Int)) := by rw [hW5]; simp
        have l2 : W5.cell? ⟨wr.heap.size, 1, none⟩ = some (.slice B3 ws.length y5) := by rw [hW5]; simp
        have l3 : W5.cell? ⟨wr.heap.size + 1, 0, none⟩ = some (.int .i64 (m : Int)) := by rw [hW5]; simp
        have l4 : W5.cell? ⟨wr.heap.size + 1, 1, none⟩ = some (.slice B1 ws.length y6) := by rw [hW5]; simp
        rw [← hW5]
        clear hW5
        have cJ : ∀ d os, Calls Tryd.prog 21 #[.slice B3 ws.length y5, .string ⟨#[32]⟩] (Sort.grow (redrawn W5 d) os) fun e w'' => e = .returned (.string ⟨(Lib.join ws [32]).toArray⟩) ∧ ∃ p : Regrown, w'' = Sort.grow (redrawn W5 p.d) p.os := fun d os => Calls.regrown_of (join_any _ ws _ _ ((HU.out.below b5 (Nat.le_refl _)).below (below_regrown W5 d os) (Nat.le_refl _)) q3 q4)
        have cK : ∀ d os, Calls Tryd.prog 21 #[.slice B1 ws.length y6, .string ⟨#[32]⟩] (Sort.grow (redrawn W5 d) os) fun e w'' => e = .returned (.string ⟨(Lib.join ws [32]).toArray⟩) ∧ ∃ p : Regrown, w'' = Sort.grow (redrawn W5 p.d) p.os := fun d os => Calls.regrown_of (join_any _ ws _ _ ((HU1.out.below b5 (Nat.le_refl _)).below (below_regrown W5 d os) (Nat.le_refl _)) q3 q4)
        have m1 := fun d os => cell_regrown l1 d os
        have m2 := fun d os => cell_regrown l2 d os
        have m3 := fun d os => cell_regrown l3 d os
        have m4 := fun d os => cell_regrown l4 d os
        obtain ⟨J, hJ⟩ : ∃ J, J = (⟨(Lib.join ws [32]).toArray⟩ : ByteArray) := ⟨_, rfl⟩
        rw [← hJ] at cJ cK
        have bz : ((ws.length : Int) == 0) = false := beqF (by omega)
        clear hJ l1 l2 l3 l4 a1 a2 d1' d2
        refine wp_region_quiet_below (by kernel_rfl) (by kernel_rfl) ?_
        repeat (go_big_quiet_step (first | with_reducible exact cJ _ _ | with_reducible exact cK _ _))
        refine wpQuiet_nil ?_
        intro _ hw'
        obtain ⟨⟨dq, osq⟩, hw''⟩ := hw'
        subst hw''
        go_wp2
        go_roundw
        case rel => exact ⟨k + 1, by omega, by go_num, (hbr.trans (b5.mono hwr)).trans ((below_regrown W5 dq osq).mono (Nat.le_trans hwr b5.size))⟩
        case measure => simp [intOf]; omega
    · go_wp2_with fail
      have hbw := hb13.trans (hbr.mono hb13.size)
      refine (alive_any wr (HM3.out.below hbr (Nat.le_refl _))).mono ?_
      rintro e w9 ⟨rfl, hb9⟩
      go_wp2
      go_ret
      exact ⟨rfl, hbw.trans (hb9.mono hbw.size)⟩
theorem walk_lexJoins (s0 s1 : ByteArray) (w : World) (_ : s0.size ≤ maxLen) (_ : s1.size ≤ maxLen) (hm : Mx w) :
    Calls Tryd.prog 8 #[.string s0, .string s1] w fun e w' => e = .returned (.bool true) ∧ Below w.heap.size w w' := by
  by_cases h0 : (2000 : Int) < (s0.size : Int)
  · exact joins_long s0 s1 w hm (.inl h0)
  · by_cases h1 : (2000 : Int) < (s1.size : Int)
    · exact joins_long s0 s1 w hm (.inr ⟨by omega, h1⟩)
    · have gl : Gives s0 (outOf s0.data.toList).1 (outOf s0.data.toList).2.1 (outOf s0.data.toList).2.2 := fun w h => lines_any s0 w (by omega) h
      have gr : Gives s1 (outOf s1.data.toList).1 (outOf s1.data.toList).2.1 (outOf s1.data.toList).2.2 := fun w h => lines_any s1 w (by omega) h
      by_cases k0 : (outOf s0.data.toList).2.2 = 0
      · by_cases k1 : (outOf s1.data.toList).2.2 = 0
        · obtain ⟨z0, r0, n0⟩ := outOf_ok _ k0
          obtain ⟨z1, r1, n1⟩ := outOf_ok _ k1
          rw [k0, n0] at gl
          rw [k1, n1] at gr
          have e : (s0 ++ ⟨#[10]⟩ ++ s1).data.toList = s0.data.toList ++ 10 :: s1.data.toList := by rw [app_list, app_list]; simp
          have hz : (s0 ++ ⟨#[10]⟩ ++ s1).size ≤ 100000 := by rw [ByteArray.size_append, ByteArray.size_append, show (⟨#[10]⟩ : ByteArray).size = 1 from rfl]; omega
          have hl0 := len_eq s0
          have hl1 := len_eq s1
          have hres := res_join _ _ _ _ r0 r1
          have hout := out_good (s0.data.toList ++ 10 :: s1.data.toList) (by rw [List.length_append, List.length_cons]; omega) hres
          have hcnt := linesOf_len s0.data.toList
          rw [hcnt] at hout hres
          have gj : Gives (s0 ++ ⟨#[10]⟩ ++ s1) ((outOf s0.data.toList).1 ++ shiftL (s0.data.toList.count 10 + 1) (outOf s1.data.toList).1) 0 0 := fun w h => by
            have := lines_any (s0 ++ ⟨#[10]⟩ ++ s1) w hz h
            unfold LinesPost at this
            rw [e, hout] at this
            exact this
          have hcl := List.count_le_length (a := (10 : UInt8)) (l := s0.data.toList)
          have hS := out_sz (s0.data.toList ++ 10 :: s1.data.toList)
          have hJ := out_join (s0.data.toList ++ 10 :: s1.data.toList)
          rw [hout] at hS hJ
          refine joins_main s0 s1 w hm (by omega) (by omega) _ _ gl gr _ rfl gj (by omega) (out_sz _).1 (out_sz _).1 (fun j m ws hj => ?_)
          have hne := res_ne _ _ hres (m, ws) (List.mem_of_getElem? hj)
          have hnum := res_num _ _ hres (m, ws) (List.mem_of_getElem? hj)
          refine ⟨?_, List.length_pos_iff.2 hne, hS.2 j m ws hj, hJ j m ws hj⟩
          have := List.count_le_length (a := (10 : UInt8)) (l := s0.data.toList ++ 10 :: s1.data.toList)
          rw [List.length_append, List.length_cons] at this
          simp only at hnum
          omega
        · exact joins_wrong s0 s1 w hm (by omega) (by omega) _ _ _ _ _ _ gl gr (.inr ⟨bneF (by omega), bneT (by omega)⟩)
      · exact joins_wrong s0 s1 w hm (by omega) (by omega) _ _ _ _ _ _ gl gr (.inl (bneT (by omega)))
end Go.Proofs.YtclcnmmhmjbjjaaDoor
