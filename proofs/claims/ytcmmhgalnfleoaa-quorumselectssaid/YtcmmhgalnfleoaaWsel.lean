/- QuorumSelects' walk. -/
import Derived.Test.YtcmmhgalnfleoaaMk
import Derived.Deep.RegionHeld3
namespace Go.Proofs.Ytcmmhgalnfleoaa
open Go.RowKit

/-- Three numbers in a block. -/
def Box3 (W : World) (b : Nat) (x y z : Int) : Prop := W.heap[b]? = some (.cells #[.int .i64 x, .int .i64 y, .int .i64 z] 38 (0, 0))
theorem Box3.later {W W' : World} {b : Nat} {x y z : Int} (h : Box3 W b x y z) (hb : Below W.heap.size W W') : Box3 W' b x y z := (hb.block _ (heap_lt h)).trans h
theorem Box3.cells {W : World} {b : Nat} {x y z : Int} (h : Box3 W b x y z) : W.cell? ⟨b, 0, none⟩ = some (.int .i64 x) ∧ W.cell? ⟨b, 1, none⟩ = some (.int .i64 y) ∧ W.cell? ⟨b, 2, none⟩ = some (.int .i64 z) := by
  refine ⟨?_, ?_, ?_⟩
  all_goals (rw [cell_of_row _ _ _ _ _ _ h]; rfl)

set_option maxRecDepth 100000 in
set_option maxHeartbeats 8000000 in
theorem walk_selects (q : Int) (A1 : Option Addr) (n1 c1 : Nat) (x y z : Int) (w : World) (hz : ActsIn w A1 n1 c1)
    (x1 : -9223372036854775808 ≤ x) (x2 : x ≤ 9223372036854775807) (z1 : -9223372036854775808 ≤ z) (z2 : z ≤ 9223372036854775807) :
    Calls Try.prog 4 #[.int .i64 q, .slice A1 n1 c1, .agg #[.int .i64 x, .int .i64 y, .int .i64 z]] w fun e w' => e = .returned (.bool true) ∧ Below w.heap.size w w' := by
  obtain ⟨l1, l2, Ls, hl, hsl⟩ := hz
  obtain ⟨i0, hi0, hz0, hz1, hz2⟩ := info_parts info_p
  have m1 : c1 ≤ 9223372036854775807 := by unfold maxLen at l2; omega
  have X := Lib.hid (And.intro hl hsl)
  have XB := Lib.hid (And.intro x1 (And.intro x2 (And.intro z1 z2)))
  clear hl hsl l2 x1 x2 z1 z2
  obtain ⟨W0, hW0⟩ : ∃ W0, W0 = w.alloc (.cells #[.int .i64 x, .int .i64 y, .int .i64 z] 38) := ⟨_, rfl⟩
  have hBX : Box3 W0 w.heap.size x y z := by rw [hW0]; exact heap_alloc_new w _
  have hW : Below w.heap.size w W0 := by rw [hW0]; exact bel_alloc _ _
  obtain ⟨bx, hbx⟩ : ∃ bx, bx = w.heap.size := ⟨_, rfl⟩
  rw [← hbx] at hBX
  have H0 := Lib.hid (And.intro hBX (And.intro hW (Sls.later X.out.2 hW)))
  have HBX := Lib.hid hbx
  clear hBX hW
  go_enter Try.func4, Try.ntmps4
  go_wp2_with fail
  rw [← hW0, ← hbx]
  clear hW0 hbx
  refine (alive_any W0).mono ?_
  rintro e w1 ⟨rfl, hb1⟩
  have H1 := Lib.hid hb1
  clear hb1
  by_cases q1 : 20 < n1
  · go_wp2_with fail
    refine (alive_any _).mono ?_
    rintro e w2 ⟨rfl, hb2⟩
    have H2 := Lib.hid (bel_trans H0.out.2.1 (bel_trans H1.out hb2))
    clear hb2 H1
    go_wp2
    go_ret
    exact ⟨rfl, H2.out⟩
  · go_wp2
    go_loopw [7, 32] (fun v7 v32 wr => ∃ (k : Nat) (Ps : List (Option Addr)), k ≤ n1 ∧ v32 = .int .i64 (k : Int) ∧ Hid (Made wr W0.heap.size v7 Ps ((Ls.map last8).take k) ∧ Below W0.heap.size W0 wr)) (fun _ s _ => n1 - (intOf s).toNat)
    case atStart => exact ⟨0, [], by omega, rfl, Lib.hid ⟨Made.nil _ _, H1.out⟩⟩
    case round =>
      clear H1
      obtain ⟨k, Ps, hk, rfl, R⟩ := hrel
      by_cases hlt : k < n1
      · obtain ⟨L, hx⟩ : ∃ L, Ls[k]? = some L := ⟨Ls[k]'(by have := X.out.1; omega), List.getElem?_eq_getElem _⟩
        obtain ⟨g, o, B, cB, rfl, hg, c0, hlc, hcm, hsms, hin⟩ := (H0.out.2.2.later R.out.2) k L hx
        have hx8 : (Ls.map last8)[k]? = some (last8 L) := by rw [List.getElem?_map, hx]; rfl
        have hlen : ((Ls.map last8).take k).length = k := by rw [List.length_take_of_le]; simp; have := X.out.1; omega
        have m2 : cB ≤ 9223372036854775807 := by unfold maxLen at hcm; omega
        obtain ⟨m, hm⟩ : ∃ m, m = L.length := ⟨_, rfl⟩
        rw [← hm] at c0 hlc
        have HL := Lib.hid (And.intro hm (And.intro hsms (And.intro hx8 hlen)))
        obtain ⟨wo, rfl⟩ : ∃ wo, wo = wr := ⟨_, rfl⟩
        obtain ⟨A7, c7, rfl, _, _⟩ := own_len R.out.1.row
        rw [hlen] at R ⊢
        clear hg hcm hsms hx8 hlen hm hx
        by_cases q2 : 50 < m
        · go_wp2
          go_ret
          exact ⟨rfl, bel_trans H0.out.2.1 R.out.2⟩
        · by_cases q3 : m = 0
          · subst q3
            go_wp2
            go_loopw [45] (fun v45 wi => v45 = .int .i64 0 ∧ Hid (wi = wo)) (fun _ _ => 0)
            case atStart => exact ⟨rfl, Lib.hid rfl⟩
            case round =>
              obtain ⟨rfl, hwi⟩ := hrel
              obtain rfl := hwi.out
              have hL0 : L = [] := List.eq_nil_of_length_eq_zero HL.out.1.symm
              have M := Lib.hid (And.intro (by have := R.out.1.row; rwa [HL.out.2.2.2] at this) (And.intro R.out.1 (And.intro (show Src wr none (last8 L) from .inl ⟨rfl, by rw [hL0]; rfl⟩) R.out.2)))
              clear hL0
              go_wp2_with (at_builtin; go_loud (refine wpList_append_lies _ rfl (.tmp 53) (.tmp 55) 39 rfl W0.heap.size 41 i0 (.pointer none) 1 8 Try.underlying39 hi0 hz0 hz1 hz2 rfl (by decide) (.slice A7 k c7) k _ rfl (own_below M.out.1 (bel_alloc _ _) (Nat.le_refl _)) ⟨wr.heap.size, 0, none⟩ 1 1 [.pointer none] rfl rfl (World.news_of_block (cs := [Value.pointer none].toArray) (heap_alloc_new _ _)) (by simp [Value.oneCell']) (by decide) (by unfold maxLen; omega) (by omega) (by have := M.out.2.2.2.size; simp; omega) _ rfl ?_); intro p1 cp1 w9 ho1 hg1 hat1 _; have H9 := Lib.hid (And.intro ho1 (And.intro hg1 (bel_grown6 (M.out.2.2.2.alloc M.out.2.2.2.size _) (own_below M.out.1 (bel_alloc _ _) (Nat.le_refl _)) (Nat.le_refl _) hg1))); clear ho1 hg1 hat1)
              refine ⟨⟨k + 1, Ps ++ [none], by omega, by go_num, Lib.hid ⟨?_, H9.out.2.2⟩⟩, by simp [intOf]; omega⟩
              rw [take_snoc HL.out.2.2.1]
              exact (M.out.2.1.below (bel_alloc _ _)).snoc (M.out.2.2.1.below (bel_alloc _ _)) (by rw [HL.out.2.2.2]; exact H9.out.1) H9.out.2.1
          · have q4 : 0 < m := by omega
            go_wp2_with fail
            refine (snew_any _).mono ?_
            rintro e w3 ⟨rfl, hs3, hb3, _⟩
            obtain ⟨sb, hsb⟩ : ∃ sb, sb = wo.heap.size + 1 := ⟨_, rfl⟩
            rw [← hsb] at hs3 ⊢
            have H3 := Lib.hid (And.intro hs3 hb3)
            clear hs3 hb3 hsb
            go_wp2
            go_loopw [45] (fun v45 wi => ∃ j : Nat, j ≤ m ∧ v45 = .int .i64 (j : Int) ∧ Hid (St wi wo.heap.size sb j (last8 (L.take j)) ∧ Below wo.heap.size wo wi)) (fun s _ => m - (intOf s).toNat)
            case atStart => exact ⟨0, by omega, rfl, Lib.hid ⟨H3.out.1, H3.out.2⟩⟩
            case round =>
              clear H3
              obtain ⟨j, hj, rfl, Q⟩ := hrel
              by_cases hjm : j < m
              · obtain ⟨p, hp⟩ : ∃ p, L[j]? = some p := ⟨L[j]'(by have := HL.out.1; omega), List.getElem?_eq_getElem _⟩
                obtain ⟨gB, oB, rfl, _⟩ := HL.out.2.1 j p hp
                obtain ⟨d0, d1, d2, d3⟩ := (HL.out.2.1.later Q.out.2).at4 hp
                have e8 := last8_snoc hp
                have HP := Lib.hid e8
                clear hp e8
                go_wp2_with fail
                refine (sadd_any p.o p.d p.t p.s (Q.out.1.below (bel_alloc _ (.cells p.arr 31))) (by omega)).mono ?_
                rintro e w5 ⟨rfl, hs5, hb5⟩
                rw [show (⟨p.o, p.d, p.t, p.s⟩ : Sm) = p from rfl, HP.out] at hs5
                have Q2 := Lib.hid (And.intro hs5 ((Q.out.2.alloc Q.out.2.size (.cells p.arr 31)).trans hb5))
                clear hs5 hb5 Q
                go_wp2
                exact ⟨⟨j + 1, by omega, by go_num, Lib.hid ⟨Q2.out.1, Q2.out.2⟩⟩, by simp [intOf]; omega⟩
              · obtain rfl : j = m := by omega
                have e : L.take j = L := List.take_of_length_le (by have := HL.out.1; omega)
                have Q1 := Q.out.1
                rw [e] at Q1
                have M := Lib.hid (And.intro (by have := (R.out.1.below Q.out.2).row; rwa [HL.out.2.2.2] at this) (And.intro (R.out.1.below Q.out.2) (And.intro (show Src wr (some ⟨sb, 0, none⟩) (last8 L) from .inr ⟨_, _, _, rfl, Q1⟩) (bel_trans R.out.2 Q.out.2))))
                clear Q1 e Q
                go_wp2_with (at_builtin; go_loud (refine wpList_append_lies _ rfl (.tmp 53) (.tmp 55) 39 rfl W0.heap.size 41 i0 (.pointer none) 1 8 Try.underlying39 hi0 hz0 hz1 hz2 rfl (by decide) (.slice A7 k c7) k _ rfl (own_below M.out.1 (bel_alloc _ _) (Nat.le_refl _)) ⟨wr.heap.size, 0, none⟩ 1 1 [.pointer (some ⟨sb, 0, none⟩)] rfl rfl (World.news_of_block (cs := [Value.pointer (some ⟨sb, 0, none⟩)].toArray) (heap_alloc_new _ _)) (by simp [Value.oneCell']) (by decide) (by unfold maxLen; omega) (by omega) (by have := M.out.2.2.2.size; simp; omega) _ rfl ?_); intro p1 cp1 w9 ho1 hg1 hat1 _; have H9 := Lib.hid (And.intro ho1 (And.intro hg1 (bel_grown6 (M.out.2.2.2.alloc M.out.2.2.2.size _) (own_below M.out.1 (bel_alloc _ _) (Nat.le_refl _)) (Nat.le_refl _) hg1))); clear ho1 hg1 hat1)
                refine ⟨⟨k + 1, Ps ++ [(some ⟨sb, 0, none⟩)], by omega, by go_num, Lib.hid ⟨?_, H9.out.2.2⟩⟩, by simp [intOf]; omega⟩
                rw [take_snoc HL.out.2.2.1]
                exact (M.out.2.1.below (bel_alloc _ _)).snoc (M.out.2.2.1.below (bel_alloc _ _)) (by rw [HL.out.2.2.2]; exact H9.out.1) H9.out.2.1
      · obtain rfl : k = n1 := by omega
        have e : (Ls.map last8).take k = Ls.map last8 := List.take_of_length_le (by have := X.out.1; simp; omega)
        have hin8 : ∀ L ∈ Ls.map last8, ∀ p ∈ L, p.In := fun L hL p hp => by
          obtain ⟨L0, h0, rfl⟩ := List.mem_map.1 hL
          obtain ⟨j, hj⟩ := List.getElem?_of_mem h0
          obtain ⟨_, _, _, _, _, _, _, _, _, _, hi⟩ := X.out.2 j L0 hj
          exact hi p (mem_last8 hp)
        have hlen : (Ls.map last8).length = k := by rw [List.length_map, X.out.1]
        obtain ⟨M1, R2⟩ := R.out
        rw [e] at M1
        obtain ⟨A7, c7, rfl, _, _⟩ := own_len M1.row
        rw [hlen] at M1 ⊢
        have hst := M1.sts hlen hin8
        obtain ⟨xb1, xb2, zb1, zb2⟩ := XB.out
        have hml : (vts x y z 0 (Ls.map last8)).length ≤ 1000 := Nat.le_trans (vts_len _ _ _ _ _) (by rw [hlen]; omega)
        have RV := fun (W : World) (hs : Sls W A1 Ls) => rvotes_any (c := c1) x y z Ls (by rw [X.out.1]; omega) hs xb1 xb2 zb1 zb2
        have SV := fun (W : World) (hs : Sts W A7 (Ls.map last8)) => svotes_any (c := c7) x y z (Ls.map last8) (by rw [hlen]; omega) hs xb1 xb2 zb1 zb2
        have SE := fun (hq : ¬ q < 1) (W : World) (hs : Sts W A7 (Ls.map last8)) => select_any (c := c7) q x y z (Ls.map last8) hq (by rw [hlen]; omega) hs xb1 xb2 zb1 zb2
        rw [hlen] at SV SE
        rw [X.out.1] at RV
        generalize vts x y z 0 (Ls.map last8) = V at RV SV SE hml
        have RC := fun (W : World) B d (hv : Vts W B V) => rchoose_any (w := W) (A := B) (c := d) q V hml hv
        obtain ⟨m, hm⟩ : ∃ m, m = V.length := ⟨_, rfl⟩
        rw [← hm] at RV SV SE RC hml
        have hE : (q < 1 ∧ cho q (V.map Vt.o) = 0 ∧ choE q m = 3) ∨ (¬ q < 1 ∧ (choE q m == 3) = false) := by
          by_cases hq : q < 1
          · obtain ⟨e1, e2⟩ := cho_low (V.map Vt.o) hq
            rw [List.length_map, ← hm] at e2
            exact .inl ⟨hq, e1, e2⟩
          · refine .inr ⟨hq, ?_⟩
            unfold choE
            rw [if_neg hq]
            split <;> decide
        generalize cho q (V.map Vt.o) = a at RC SE hE
        generalize choE q m = f at RC SE hE
        have HV := Lib.hid (And.intro RV (And.intro SV (And.intro SE (And.intro RC hm))))
        have H1 := Lib.hid (And.intro hst (And.intro R2 (Box3.later H0.out.1 R2)))
        clear RV SV SE RC hm M1 R2 R e hin8 hlen hst xb1 xb2 zb1 zb2
        obtain ⟨b0, b1, b2⟩ := H1.out.2.2.cells
        rcases hE with ⟨hq, rfl, rfl⟩ | ⟨hq, hf⟩
        · go_wp2_with fail
          refine (select_low q x y z A7 k c7 _ hq).mono ?_
          rintro e w' ⟨rfl, rfl⟩
          go_wp2_with fail
          refine (HV.out.1 _ (H0.out.2.2.later H1.out.2.1)).mono ?_
          rintro e w2 ⟨v, rfl, ho, hb2⟩
          obtain ⟨B2, d2, rfl, _, _⟩ := own_len ho
          have H2 := Lib.hid (And.intro (show Vts w2 B2 V from lies_own6 ho) (And.intro (H1.out.1.later hb2) (And.intro (bel_trans H1.out.2.1 hb2) (H1.out.2.2.later hb2))))
          clear ho hb2 b0 b1 b2 H1
          go_wp2_with fail
          refine (HV.out.2.2.2.1 _ _ _ H2.out.1).mono ?_
          rintro e w3 ⟨rfl, hb3⟩
          have H3 := Lib.hid (And.intro (H2.out.2.1.later hb3) (And.intro (bel_trans H2.out.2.2.1 hb3) (H2.out.2.2.2.later hb3)))
          clear hb3 H2
          obtain ⟨b0, b1, b2⟩ := H3.out.2.2.cells
          go_wp2_with fail
          refine (HV.out.2.1 _ H3.out.1).mono ?_
          rintro e w4 ⟨v, rfl, ho, hb4⟩
          obtain ⟨B4, d4, rfl, _, _⟩ := own_len ho
          have H4 := Lib.hid (bel_trans H3.out.2.1 hb4)
          clear ho hb4 b0 b1 b2 H3
          go_wp2
          go_ret
          exact ⟨rfl, bel_trans H0.out.2.1 H4.out⟩
        · go_wp2_with fail
          refine (HV.out.2.2.1 hq _ H1.out.1).mono ?_
          rintro e w2 ⟨B2, d2, rfl, hv2, hb2⟩
          have H2 := Lib.hid (And.intro hv2 (And.intro (H1.out.1.later hb2) (And.intro (bel_trans H1.out.2.1 hb2) (H1.out.2.2.later hb2))))
          clear hv2 hb2 b0 b1 b2 H1
          obtain ⟨b0, b1, b2⟩ := H2.out.2.2.2.cells
          go_wp2_with fail
          refine (HV.out.1 _ (H0.out.2.2.later H2.out.2.2.1)).mono ?_
          rintro e w3 ⟨v, rfl, ho, hb3⟩
          obtain ⟨B3, d3, rfl, _, _⟩ := own_len ho
          have H3 := Lib.hid (And.intro (H2.out.1.later hb3) (And.intro (show Vts w3 B3 V from lies_own6 ho) (And.intro (H2.out.2.1.later hb3) (And.intro (bel_trans H2.out.2.2.1 hb3) (H2.out.2.2.2.later hb3)))))
          clear ho hb3 b0 b1 b2 H2
          go_wp2_with fail
          refine (HV.out.2.2.2.1 _ _ _ H3.out.2.1).mono ?_
          rintro e w4 ⟨rfl, hb4⟩
          have H4 := Lib.hid (And.intro (H3.out.1.later hb4) (And.intro (H3.out.2.1.later hb4) (And.intro (H3.out.2.2.1.later hb4) (And.intro (bel_trans H3.out.2.2.2.1 hb4) (H3.out.2.2.2.2.later hb4)))))
          clear hb4 H3
          obtain ⟨b0, b1, b2⟩ := H4.out.2.2.2.2.cells
          go_wp2_with fail
          refine (HV.out.2.1 _ H4.out.2.2.1).mono ?_
          rintro e w5 ⟨v, rfl, ho, hb5⟩
          obtain ⟨B5, d5, rfl, _, _⟩ := own_len ho
          have H5 := Lib.hid (And.intro (H4.out.1.later hb5) (And.intro (H4.out.2.1.later hb5) (And.intro (show Vts w5 B5 V from lies_own6 ho) (bel_trans H4.out.2.2.2.1 hb5))))
          clear ho hb5 b0 b1 b2 H4
          go_wp2
          go_loopw [120] (fun v120 wi => ∃ j : Nat, j ≤ m ∧ v120 = .int .i64 (j : Int) ∧ Hid (Below w5.heap.size w5 wi)) (fun s _ => m - (intOf s).toNat)
          case atStart => exact ⟨0, by omega, rfl, Lib.hid (Below.refl _ _)⟩
          case round =>
            obtain ⟨j, hj, rfl, Q⟩ := hrel
            by_cases hjm : j < m
            · obtain ⟨u, hu⟩ : ∃ u, V[j]? = some u := ⟨V[j]'(by have := HV.out.2.2.2.2; omega), List.getElem?_eq_getElem _⟩
              obtain ⟨g3, o3, rfl, hg3, s0, s1, s2, s3, s4, s5⟩ := (H5.out.2.1.later Q.out).at6 hu
              have HU := Lib.hid hu
              have a0 : ∀ O, (wr.alloc O).cell? ⟨g3, o3 + j * 6, none⟩ = some (.int .i64 u.s) := fun O => (World.cell?_alloc_lt _ _ _ hg3).trans s0
              have a1 : ∀ O, (wr.alloc O).cell? ⟨g3, o3 + j * 6 + 1, none⟩ = some (.int .i64 u.p.o) := fun O => (World.cell?_alloc_lt _ _ _ hg3).trans s1
              have a2 : ∀ O, (wr.alloc O).cell? ⟨g3, o3 + j * 6 + 2, none⟩ = some (.int .i64 u.p.d) := fun O => (World.cell?_alloc_lt _ _ _ hg3).trans s2
              have a3 : ∀ O, (wr.alloc O).cell? ⟨g3, o3 + j * 6 + 3, none⟩ = some (.int .i64 u.p.t) := fun O => (World.cell?_alloc_lt _ _ _ hg3).trans s3
              have a4 : ∀ O, (wr.alloc O).cell? ⟨g3, o3 + j * 6 + 4, none⟩ = some (.int .i64 u.p.s) := fun O => (World.cell?_alloc_lt _ _ _ hg3).trans s4
              have a5 : ∀ O, (wr.alloc O).cell? ⟨g3, o3 + j * 6 + 5, none⟩ = some (.int .i64 u.o) := fun O => (World.cell?_alloc_lt _ _ _ hg3).trans s5
              clear hu hg3
              go_wp2_with fail
              go_region
              obtain ⟨W6, hW6⟩ : ∃ W6, W6 = (wr.alloc (.cells u.cells.toArray 48)).drew := ⟨_, rfl⟩
              rw [← hW6]
              have hb6 : Below wr.heap.size wr W6 := by rw [hW6]; exact below_drew (bel_alloc _ _)
              have gN : W6.heap[wr.heap.size]? = some (.cells u.cells.toArray 48 (0, 0)) := by rw [hW6]; exact heap_alloc_new wr _
              have t0 : W6.cell? ⟨wr.heap.size, 0, none⟩ = some (.int .i64 u.s) := by rw [cell_of_row _ _ _ _ _ _ gN]; rfl
              have t1 : W6.cell? ⟨wr.heap.size, 1, none⟩ = some (.int .i64 u.p.o) := by rw [cell_of_row _ _ _ _ _ _ gN]; rfl
              have t2 : W6.cell? ⟨wr.heap.size, 2, none⟩ = some (.int .i64 u.p.d) := by rw [cell_of_row _ _ _ _ _ _ gN]; rfl
              have t3 : W6.cell? ⟨wr.heap.size, 3, none⟩ = some (.int .i64 u.p.t) := by rw [cell_of_row _ _ _ _ _ _ gN]; rfl
              have t4 : W6.cell? ⟨wr.heap.size, 4, none⟩ = some (.int .i64 u.p.s) := by rw [cell_of_row _ _ _ _ _ _ gN]; rfl
              have t5 : W6.cell? ⟨wr.heap.size, 5, none⟩ = some (.int .i64 u.o) := by rw [cell_of_row _ _ _ _ _ _ gN]; rfl
              have Q6 := Lib.hid (bel_trans Q.out hb6)
              clear hW6 hb6 gN a0 a1 a2 a3 a4 a5 s0 s1 s2 s3 s4 s5
              obtain ⟨g2, o2, rfl, _, r0, r1, r2, r3, r4, r5⟩ := (H5.out.1.later Q6.out).at6 HU.out
              obtain ⟨g5, o5, rfl, _, v0, v1, v2, v3, v4, v5⟩ := (H5.out.2.2.1.later Q6.out).at6 HU.out
              go_wp2_with fail
              go_region
              clear t0 t1 t2 t3 t4 t5 r0 r1 r2 r3 r4 r5 v0 v1 v2 v3 v4 v5
              go_wp2
              exact ⟨⟨j + 1, by omega, by go_num, Lib.hid (below_drew Q6.out)⟩, by simp [intOf]; omega⟩
            · obtain rfl : j = m := by omega
              go_wp2
              go_ret
              exact ⟨rfl, bel_trans H0.out.2.1 (bel_trans H5.out.2.2.2 Q.out)⟩
end Go.Proofs.Ytcmmhgalnfleoaa
