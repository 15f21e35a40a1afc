/- CountEach: each reason is counted by itself. -/
import Derived.Test.YtfhpckglckcdjaaDoorAlive
import Derived.Test.YtfhpckglckcdjaaDoorRtx
import Derived.Test.YtfhpckglckcdjaaDoorMp
import Derived.ProofKit
import Derived.Deep.CutBlock
import Derived.Deep.CutRange
namespace Go.Proofs.YtfhpckglckcdjaaDoor
open Go.RowKit Go.Proofs.Lx Go.Maps Go.WideMaps Go.ChangeShapes

/-- One of them alone. -/
def oneN (k n : Nat) : List Nat := zeros.set k n
theorem one_zero : ∀ k, k < 13 → oneN k 0 = zeros := by decide
theorem one_len (k n : Nat) : (oneN k n).length = 13 := by unfold oneN; rw [List.length_set]; rfl
theorem one_at (k n i : Nat) (hk : k < 13) : (oneN k n).getD i 0 = if i = k then n else 0 := by
  unfold oneN
  rw [List.getD_eq_getElem?_getD, List.getElem?_set]
  by_cases e : k = i
  · subst e; simp [zeros, hk]
  · rw [if_neg e, if_neg (fun h => e h.symm)]
    have : ∀ i, i < 13 → zeros[i]?.getD 0 = 0 := by decide
    rcases Nat.lt_or_ge i 13 with h | h
    · exact this i h
    · rw [List.getElem?_eq_none (by simpa [zeros] using h)]; rfl
theorem one_bump (k n : Nat) (hk : k < 13) : bump (oneN k n) k = oneN k (n + 1) := by
  unfold bump
  rw [one_at k n k hk, if_pos rfl]
  unfold oneN
  rw [List.set_set]
theorem one_fit (k n : Nat) (hk : k < 13) (hn : n ≤ 1000000) : Fit (oneN k n) := by
  refine ⟨one_len k n, ?_⟩
  have h1 := sum_set zeros k n (by simpa [zeros] using hk)
  have h2 : zeros.sum = 0 := by decide
  unfold oneN; omega
theorem one_text : ∀ k, k < 13 → ∀ n, n ≠ 0 → textN (oneN k n) = prt k n := by
  intro k hk n hn
  match k, hk with
  | 0, _ => simp [textN, oneN, zeros, partsF, hn, Lib.join_one]
  | 1, _ => simp [textN, oneN, zeros, partsF, hn, Lib.join_one]
  | 2, _ => simp [textN, oneN, zeros, partsF, hn, Lib.join_one]
  | 3, _ => simp [textN, oneN, zeros, partsF, hn, Lib.join_one]
  | 4, _ => simp [textN, oneN, zeros, partsF, hn, Lib.join_one]
  | 5, _ => simp [textN, oneN, zeros, partsF, hn, Lib.join_one]
  | 6, _ => simp [textN, oneN, zeros, partsF, hn, Lib.join_one]
  | 7, _ => simp [textN, oneN, zeros, partsF, hn, Lib.join_one]
  | 8, _ => simp [textN, oneN, zeros, partsF, hn, Lib.join_one]
  | 9, _ => simp [textN, oneN, zeros, partsF, hn, Lib.join_one]
  | 10, _ => simp [textN, oneN, zeros, partsF, hn, Lib.join_one]
  | 11, _ => simp [textN, oneN, zeros, partsF, hn, Lib.join_one]
  | 12, _ => simp [textN, oneN, zeros, partsF, hn, Lib.join_one]
  | k + 13, h => omega
theorem one_ref (k n : Nat) (hk : k < 13) : refN (oneN k n) = if k = 0 then 0 else n := by
  have h1 := ref_and (oneN k n) (one_len k n)
  have h2 := sum_set zeros k n (by simpa [zeros] using hk)
  have h3 : zeros.sum = 0 := by decide
  have h4 : zeros.getD k 0 = 0 := by rw [← one_zero k hk, one_at k 0 k hk, if_pos rfl]
  rw [one_at k n 0 hk] at h1
  have h5 : (oneN k n).sum = n := by unfold oneN; omega
  split
  · rename_i e; subst e; simp at h1; omega
  · rename_i e; rw [if_neg (fun h => e h.symm)] at h1; omega
theorem add_one {w wi : World} {b k n : Nat} (s : St w wi b (oneN k n)) (hk : k < 13) (hn : n ≤ 1000000) : Calls Tryd.prog 9 #[.pointer (some ⟨b, 0, none⟩), .int .i64 k] wi fun e w' => e = .returned (.int .i64 0) ∧ St w w' b (oneN k (n + 1)) := by
  have := add_st s k hk (one_fit k n hk hn)
  rw [one_bump k n hk] at this
  exact this
/-- The text of one of them alone. -/
def wantS (k n : Nat) : ByteArray := (nameS k ++ ⟨#[32]⟩) ++ decS n
theorem want_text (k n : Nat) (hk : k < 13) (hn : n ≠ 0) : txtS (oneN k n) = wantS k n := bytes_ext (by
  unfold wantS
  rw [part_list, ← one_text k hk n hn]
  simp [txtS])

set_option maxRecDepth 100000 in
set_option maxHeartbeats 8000000 in
theorem walk_countEach (a0 a1 : Int) (w : World) (w0 : (Lit.int .u8 a0).wf = true) (w1 : (Lit.int .u8 a1).wf = true) (ht : Pow w) :
    Calls Tryd.prog 6 #[.int .u8 a0, .int .u8 a1] w fun e w' => e = .returned (.bool true) ∧ Below w.heap.size w w' := by
  obtain ⟨b1, b2⟩ := bounds_u8 w0
  obtain ⟨c1, c2⟩ := bounds_u8 w1
  obtain ⟨n, rfl⟩ : ∃ n : Nat, a1 = n := ⟨a1.toNat, by omega⟩
  obtain ⟨k, hk⟩ : ∃ k : Nat, a0 % 13 = k := ⟨(a0 % 13).toNat, by omega⟩
  have hk13 : k < 13 := by omega
  have HT := Lib.hid ht
  clear ht w0 w1
  go_enter Tryd.func6, Tryd.ntmps6
  go_wp2_with fail
  refine (new_any _).mono ?_
  rintro e w1 ⟨rfl, hw1⟩
  have S1 : Hid (St w w1 w.heap.size zeros) := by rw [hw1]; exact St.new w
  clear hw1
  go_wp2_with fail
  refine (alive_any _ (S1.out.pow HT.out)).mono ?_
  rintro e w2 ⟨rfl, h2⟩
  have S2 := Lib.hid (S1.out.below h2)
  clear h2 S1
  go_wp2_with fail
  obtain ⟨B, hB⟩ : ∃ B, B = w.heap.size := ⟨_, rfl⟩
  rw [← hB] at S2 ⊢
  have HB := Lib.hid hB
  clear hB hk
  go_loopw [22] (fun i wr => ∃ j : Nat, j ≤ n ∧ i = .int .u8 j ∧ Hid (St w wr B (oneN k j))) (fun i _ => n - (intOf i).toNat)
  case atStart => exact ⟨0, by omega, rfl, by rw [one_zero k hk13]; exact S2⟩
  case round =>
    obtain ⟨j, hj, rfl, S3⟩ := hrel
    by_cases hjn : j < n
    · have hjn1 : (j : Int) < (n : Int) := by omega
      have K := Lib.hid (add_one S3.out hk13 (by omega))
      go_wp2_with fail
      refine K.out.mono ?_
      rintro e w3 ⟨rfl, s4⟩
      have S4 := Lib.hid s4
      clear s4 K S3
      go_wp2
      go_roundw
      case rel => exact ⟨j + 1, by omega, by go_num, S4⟩
      case measure => simp [intOf]; omega
    · obtain rfl : j = n := by omega
      clear hjn
      go_wp2_with fail
      go_loopw [28] (fun i wr => ∃ i0 : Nat, i0 ≤ 13 ∧ i = .int .i64 i0 ∧ Hid (St w wr B (oneN k j))) (fun i _ => 13 - (intOf i).toNat)
      case atStart => exact ⟨0, by omega, rfl, S3⟩
      case round =>
        obtain ⟨i, hi, rfl, S4⟩ := hrel
        by_cases hi13 : i < 13
        · have hi1 : (i : Int) < 13 := by omega
          have HM0 := Lib.hid (OM.made wr)
          have hmm := @run_makeMap Tryd.prog
          have hsz := S4.out.bel.size
          have hle : B ≤ wr.heap.size := by rw [HB.out]; exact hsz
          have hbk : B < wr.heap.size := S4.out.cn.lt
          have KO := Lib.hid (fun W (s : St w W B (oneN k j)) => of_in _ _ i W hi13 (one_len k j) s.cs)
          have SW := Lib.hid (fun W6 W7 (hg6 : (wr.alloc (.map #[] 0)).grownBy W6 (some wr.heap.size)) (hg7 : W6.grownBy W7 (some wr.heap.size)) => (show St w W7 B (oneN k j) from S4.out.below (below_ins (below_ins (bel_alloc wr (.map #[] 0)) (by simp) hg6 (Nat.le_refl _)) (by have := hg6.size; simp at this; omega) hg7 (Nat.le_refl _))))
          by_cases hik : i = k
          · have tk : ((i : Int) == (k : Int)) = true := by simp [hik]
            rw [show (oneN k j).getD i 0 = j by rw [one_at k j i hk13, if_pos hik]] at KO
            clear hik
            go_wp2_with (first
              | (refine wpList_insert_own_g _ rfl _ _ _ 40 rfl 4 3 (bool_keyed Tryd.underlying4) Tryd.underlying40 (plainElem (H := Unit) Tryd.prog 3) wr.heap.size 1 _ rfl HM1.out (by decide) _ _ (.bool false) rfl rfl (key_bool false) _ [] (plainElem_int Tryd.underlying3 (by decide)) ?_; intro w7 hm7 hg7; have lk := two_look (c := (j : Int)) (d := 0) hm7 true; have S7 := Lib.hid (SW.out _ _ HG6.out hg7); clear hm7 hg7)
              | (refine wpList_insert_own_g _ rfl _ _ _ 40 rfl 4 3 (bool_keyed Tryd.underlying4) Tryd.underlying40 (plainElem (H := Unit) Tryd.prog 3) wr.heap.size 0 _ rfl HM0.out (by decide) _ _ (.bool true) rfl rfl (key_bool true) _ [] (plainElem_int Tryd.underlying3 (i64_wf (by omega) (by omega))) ?_; intro w6 hm6 hg6; have HM1 := Lib.hid hm6; have HG6 := Lib.hid hg6; clear hm6 hg6)
              | (go_at_call 10; refine (KO.out _ S7.out).mono ?_; rintro e w8 ⟨rfl, hb8⟩; have S8 := Lib.hid (S7.out.below hb8); clear hb8))
            go_roundw
            case rel => exact ⟨i + 1, by omega, by go_num, S8⟩
            case measure => simp [intOf]; omega
          · have tk : ((i : Int) == (k : Int)) = false := by simp; omega
            rw [show (oneN k j).getD i 0 = 0 by rw [one_at k j i hk13, if_neg hik]] at KO
            clear hik
            go_wp2_with (first
              | (refine wpList_insert_own_g _ rfl _ _ _ 40 rfl 4 3 (bool_keyed Tryd.underlying4) Tryd.underlying40 (plainElem (H := Unit) Tryd.prog 3) wr.heap.size 1 _ rfl HM1.out (by decide) _ _ (.bool false) rfl rfl (key_bool false) _ [] (plainElem_int Tryd.underlying3 (by decide)) ?_; intro w7 hm7 hg7; have lk := two_look (c := (j : Int)) (d := 0) hm7 false; have S7 := Lib.hid (SW.out _ _ HG6.out hg7); clear hm7 hg7)
              | (refine wpList_insert_own_g _ rfl _ _ _ 40 rfl 4 3 (bool_keyed Tryd.underlying4) Tryd.underlying40 (plainElem (H := Unit) Tryd.prog 3) wr.heap.size 0 _ rfl HM0.out (by decide) _ _ (.bool true) rfl rfl (key_bool true) _ [] (plainElem_int Tryd.underlying3 (i64_wf (by omega) (by omega))) ?_; intro w6 hm6 hg6; have HM1 := Lib.hid hm6; have HG6 := Lib.hid hg6; clear hm6 hg6)
              | (go_at_call 10; refine (KO.out _ S7.out).mono ?_; rintro e w8 ⟨rfl, hb8⟩; have S8 := Lib.hid (S7.out.below hb8); clear hb8))
            go_roundw
            case rel => exact ⟨i + 1, by omega, by go_num, S8⟩
            case measure => simp [intOf]; omega
        · obtain rfl : i = 13 := by omega
          clear hi13
          have hzr := S4.out.bel.size
          have KT := Lib.hid (fun W (h : Below wr.heap.size wr W) => text_any _ (oneN k j) W (one_fit k j hk13 (by omega)) (S4.out.below h).cs ((S4.out.below h).pow HT.out))
          have KR := Lib.hid (fun W (h : Below wr.heap.size wr W) => refused_any _ (oneN k j) W (one_fit k j hk13 (by omega)) (S4.out.below h).cs)
          have HW := Lib.hid S4.out.bel
          have hwr := S4.out.bel.size
          obtain ⟨ok, hok⟩ : ∃ ok, ok = ((k : Int) == 0) := ⟨_, rfl⟩
          obtain ⟨r, hr⟩ : ∃ r : Int, r = if ok = true then 0 else (j : Int) := ⟨_, rfl⟩
          have HRR := Lib.hid hr
          rw [show ((refN (oneN k j) : Nat) : Int) = r by rw [one_ref k j hk13, hr, hok]; by_cases h : k = 0 <;> simp [h]] at KR
          have tk : ((k : Int) == 0) = ok := hok.symm
          have hwj : IntKind.i64.wrap (j : Int) = (j : Int) := by rw [IntKind.wrap_i64]; omega
          clear hr hok
          obtain ⟨T, hT⟩ : ∃ T, T = txtS (oneN k j) := ⟨_, rfl⟩
          have HT0 := Lib.hid (fun h : j = 0 => (show T = ⟨#[]⟩ by rw [hT, h, one_zero k hk13]; rfl))
          have HT1 := Lib.hid (fun h : j ≠ 0 => (show T = (nameS k ++ ⟨#[32]⟩) ++ decS j from by rw [hT, want_text k j hk13 h]; rfl))
          rw [← hT] at KT
          clear hT S3 S4
          go_upto_if 46 with fail
          go_cut [9] from 45 to 55 (fun s9 wc => s9 = .string T ∧ Hid (Below wr.heap.size wr wc))
          case first =>
            by_cases hn0 : j = 0
            · have hn1 : ¬ (0 : Int) < (j : Int) := by omega
              have HTT := Lib.hid (HT0.out hn0)
              clear hn0
              go_wp2_with fail
              go_meet
              exact ⟨by rw [HTT.out], Lib.hid (Below.refl _ _)⟩
            · have hn1 : (0 : Int) < (j : Int) := by omega
              have hs1 := size_one
              have hsn := nameS_size k
              have hsd := decS_size j (by omega)
              have HNM := Lib.hid (fun W g (h : NamesAt W g) => (show W.cell? ⟨g, k, none⟩ = some (.string (nameS k)) from h.cell k hk13))
              have HKD := Lib.hid (fun W => rdec_any j W (by omega))
              have hk1 : (k : Int) < 13 := by omega
              have HTT := Lib.hid (HT1.out hn0)
              obtain ⟨ns, hns⟩ : ∃ ns, ns = nameS k := ⟨_, rfl⟩
              obtain ⟨ds, hds⟩ : ∃ ds, ds = decS j := ⟨_, rfl⟩
              rw [← hns] at HNM hsn HTT
              rw [← hds] at HKD hsd HTT
              have HBd := Lib.hid (show Below wr.heap.size wr wr.drew from (Below.refl _ _).drew)
              have q2 : ¬ (9223372036854775807 < ns.size + 1) := by omega
              have q3 : ¬ (9223372036854775807 < ns.size + 1 + ds.size) := by omega
              clear hn0 hns hds
              go_wp2_with fail
              go_region_with
                (first
                  | (go_at_call 15; refine (rnames_ex _).mono ?_; rintro e z1 ⟨g, rfl, hg, h1⟩; have M1 := Lib.hid (HBd.out.trans (h1.mono HBd.out.size)); have NA := Lib.hid hg; have n1 := HNM.out _ _ hg; clear h1 hg)
                  | (go_at_call 16; refine (HKD.out _).mono ?_; rintro e z2 ⟨rfl, h2⟩; have M2 := Lib.hid (M1.out.trans (h2.mono M1.out.size)); have n2 := HNM.out _ _ (NA.out.below h2); clear h2))
              all_goals (
                go_wp2_with fail
                go_meet
                exact ⟨by rw [HTT.out], M2⟩)
          case rest =>
            obtain ⟨rfl, HC⟩ := hcut
            go_wp2_with fail
            refine wp_region_held_drew (S := fun _ => True) (by kernel_rfl) trivial (fun hHeld => ?_)
            obtain ⟨W0, hw0⟩ : ∃ W0, W0 = wc.drew := ⟨_, rfl⟩
            rw [← hw0]
            have BD : Below wr.heap.size wr W0 := by rw [hw0]; exact HC.out.drew
            clear hw0
            refine wpAnyH_take (i := 0) (v := ?_) rfl (by kernel_rfl) (by kernel_rfl) (by kernel_rfl) (fun _ _ _ h => h) (Or.inl ⟨by rfl, ?_⟩) (by assumption) ?_
            rotate_left
            · (intro w hSw; (try dsimp only at hSw); go_simp; try with_reducible rfl)
            refine wpAnyH_take (i := 2) (v := ?_) rfl (by kernel_rfl) (by kernel_rfl) (by kernel_rfl) (fun _ _ _ h => h) (Or.inl ⟨by rfl, ?_⟩) (by assumption) ?_
            rotate_left
            · (intro w hSw; (try dsimp only at hSw); go_simp; try with_reducible rfl)
            refine wpAnyH_ready (rs := [1]) (by kernel_rfl) (by simp) ?_
            refine AllReadyH.cons rfl (fun K hK => ?_) <| AllReadyH.nil
            go_simp
            go_at_call 12
            refine (KT.out _ BD).mono ?_
            rintro e W1 ⟨rfl, h1⟩
            have B0 : Below wr.heap.size wr W1 := BD.trans (h1.mono BD.size)
            clear h1
            go_wp2_with fail
            refine hK.out _ _ trivial (fun _ => ?_)
            clear hK K
            refine wpAnyH_take (i := 3) (v := ?_) rfl (by kernel_rfl) (by kernel_rfl) (by kernel_rfl) (fun _ _ _ h => h) (Or.inl ⟨by rfl, ?_⟩) (by assumption) ?_
            rotate_left
            · (intro w hSw; (try dsimp only at hSw); go_simp; try with_reducible rfl)
            refine wpAnyH_take (i := 4) (v := ?_) rfl (by kernel_rfl) (by kernel_rfl) (by kernel_rfl) (fun _ _ _ h => h) (Or.inl ⟨by rfl, ?_⟩) (by assumption) ?_
            rotate_left
            · (intro w hSw; (try dsimp only at hSw); go_simp; try with_reducible rfl)
            refine wpAnyH_take (i := 5) (v := ?_) rfl (by kernel_rfl) (by kernel_rfl) (by kernel_rfl) (fun _ _ _ h => h) (Or.inl ⟨by rfl, ?_⟩) (by assumption) ?_
            rotate_left
            · (intro w hSw; (try dsimp only at hSw); go_simp; try with_reducible rfl)
            refine wpAnyH_take (i := 9) (v := ?_) rfl (by kernel_rfl) (by kernel_rfl) (by kernel_rfl) (fun _ _ _ h => h) (Or.inl ⟨by rfl, ?_⟩) (by assumption) ?_
            rotate_left
            · (intro w hSw; (try dsimp only at hSw); go_simp; try with_reducible rfl)
            refine wpAnyH_take (i := 10) (v := ?_) rfl (by kernel_rfl) (by kernel_rfl) (by kernel_rfl) (fun _ _ _ h => h) (Or.inl ⟨by rfl, ?_⟩) (by assumption) ?_
            rotate_left
            · (intro w hSw; (try dsimp only at hSw); go_simp; try with_reducible rfl)
            refine wpAnyH_take (i := 13) (v := ?_) rfl (by kernel_rfl) (by kernel_rfl) (by kernel_rfl) (fun _ _ _ h => h) (Or.inl ⟨by rfl, ?_⟩) (by assumption) ?_
            rotate_left
            · (intro w hSw; (try dsimp only at hSw); go_simp; try with_reducible rfl)
            refine wpAnyH_take (i := 14) (v := ?_) rfl (by kernel_rfl) (by kernel_rfl) (by kernel_rfl) (fun _ _ _ h => h) (Or.inl ⟨by rfl, ?_⟩) (by assumption) ?_
            rotate_left
            · (intro w hSw; (try dsimp only at hSw); go_simp; try with_reducible rfl)
            refine wpAnyH_ready (rs := [6, 7]) (by kernel_rfl) (by simp) ?_
            refine AllReadyH.cons rfl (fun K hK => ?_) <| AllReadyH.cons rfl (fun K hK => ?_) <| AllReadyH.nil
            · go_simp
              go_at_call 11
              refine (KR.out _ B0).mono ?_
              rintro e z1 ⟨rfl, hz⟩
              have B1 : Below wr.heap.size wr z1 := B0.trans (hz.mono B0.size)
              clear hz
              go_wp2_with fail
              refine hK.out _ _ trivial (fun _ => ?_)
              clear hK K
              refine wpAnyH_ready (rs := [7]) (by kernel_rfl) (by simp) ?_
              refine AllReadyH.cons rfl (fun K hK => ?_) <| AllReadyH.nil
              have hmm := @run_makeMap Tryd.prog
              go_simp
              clear hmm
              have B2 : Below wr.heap.size wr (z1.alloc (.map #[] 0)) := B1.alloc B1.size _
              obtain ⟨g2, hg2⟩ : ∃ g, g = z1.heap.size := ⟨_, rfl⟩
              have O2 := Lib.hid (OM.made z1)
              obtain ⟨y2, hy2⟩ : ∃ y, y = (z1.alloc (.map #[] 0)) := ⟨_, rfl⟩
              have G2 : wr.heap.size ≤ g2 := by rw [hg2]; exact B1.size
              rw [← hg2, ← hy2] at O2
              rw [← hy2] at B2
              rw [← hg2, ← hy2]
              clear hg2 hy2
              refine hK.out _ _ trivial (fun _ => ?_)
              clear hK K
              refine wpAnyH_ready (rs := [8, 11]) (by kernel_rfl) (by simp) ?_
              refine AllReadyH.cons rfl (fun K hK => ?_) <| AllReadyH.cons rfl (fun K hK => ?_) <| AllReadyH.nil
              · refine step_insert_own (w := y2) (by rfl) (.tmp 63) (.const (.bool true)) (.const (.int .i64 0)) 40 rfl 4 3 (bool_keyed Tryd.underlying4) Tryd.underlying40 (plainElem (H := Unit) Tryd.prog 3) g2 0 _ rfl O2.out (by decide) _ _ (.bool true) rfl rfl (key_bool true) _ [] (plainElem_int Tryd.underlying3 (by decide)) ?_
                intro x3 hx3 gx3
                have O3 := Lib.hid hx3
                have B3 : Below wr.heap.size wr x3 := below_ins B2 B2.size gx3 G2
                clear hx3 gx3
                refine hK.out _ _ trivial (fun _ => ?_)
                clear hK K
                refine wpAnyH_ready (rs := [11]) (by kernel_rfl) (by simp) ?_
                refine AllReadyH.cons rfl (fun K hK => ?_) <| AllReadyH.nil
                refine step_insert_own (w := x3) (by rfl) (.tmp 63) (.const (.bool false)) (.tmp 65) 40 rfl 4 3 (bool_keyed Tryd.underlying4) Tryd.underlying40 (plainElem (H := Unit) Tryd.prog 3) g2 1 _ rfl O3.out (by decide) _ _ (.bool false) rfl rfl (key_bool false) _ [] (plainElem_int Tryd.underlying3 (i64_wf (by omega) (by omega))) ?_
                intro x4 hx4 gx4
                have O4 := Lib.hid hx4
                have B4 : Below wr.heap.size wr x4 := below_ins B3 B3.size gx4 G2
                clear hx4 gx4
                refine hK.out _ _ trivial (fun _ => ?_)
                clear hK K
                refine wpAnyH_take (i := 12) (v := ?_) rfl (by kernel_rfl) (by kernel_rfl) (by kernel_rfl) (fun _ _ _ h => h) (Or.inl ⟨by rfl, ?_⟩) (by assumption) ?_
                rotate_left
                · (intro w hSw; (try dsimp only at hSw); go_simp; try with_reducible rfl)
                refine wpAnyH_ready (rs := [15]) (by kernel_rfl) (by simp) ?_
                refine AllReadyH.cons rfl (fun K hK => ?_) <| AllReadyH.nil
                have lk := two_look (c := 0) (d := (j : Int)) O4.out ok
                rw [← HRR.out] at lk
                go_simp
                clear lk
                refine hK.out _ _ trivial (fun _ => ?_)
                clear hK K
                refine wpAnyH_take (i := 16) (v := ?_) rfl (by kernel_rfl) (by kernel_rfl) (by kernel_rfl) (fun _ _ _ h => h) (Or.inl ⟨by rfl, ?_⟩) (by assumption) ?_
                rotate_left
                · (intro w hSw; (try dsimp only at hSw); go_simp; try with_reducible rfl)
                refine wpAnyH_take (i := 17) (v := ?_) rfl (by kernel_rfl) (by kernel_rfl) (by kernel_rfl) (fun _ _ _ h => h) (Or.inl ⟨by rfl, ?_⟩) (by assumption) ?_
                rotate_left
                · (intro w hSw; (try dsimp only at hSw); go_simp; try with_reducible rfl)
                refine wpAnyH_take (i := 18) (v := ?_) rfl (by kernel_rfl) (by kernel_rfl) (by kernel_rfl) (fun _ _ _ h => h) (Or.inl ⟨by rfl, ?_⟩) (by assumption) ?_
                rotate_left
                · (intro w hSw; (try dsimp only at hSw); go_simp; try with_reducible rfl)
                refine wpAnyH_done (by kernel_rfl) ?_ _
                go_simp
                go_wp2_with fail
                go_ret
                exact ⟨rfl, HW.out.trans (B4.mono hwr)⟩
              · refine step_insert_own (w := y2) (by rfl) (.tmp 63) (.const (.bool false)) (.tmp 65) 40 rfl 4 3 (bool_keyed Tryd.underlying4) Tryd.underlying40 (plainElem (H := Unit) Tryd.prog 3) g2 0 _ rfl O2.out (by decide) _ _ (.bool false) rfl rfl (key_bool false) _ [] (plainElem_int Tryd.underlying3 (i64_wf (by omega) (by omega))) ?_
                intro x6 hx6 gx6
                have O6 := Lib.hid hx6
                have B6 : Below wr.heap.size wr x6 := below_ins B2 B2.size gx6 G2
                clear hx6 gx6
                refine hK.out _ _ trivial (fun _ => ?_)
                clear hK K
                refine wpAnyH_ready (rs := [8]) (by kernel_rfl) (by simp) ?_
                refine AllReadyH.cons rfl (fun K hK => ?_) <| AllReadyH.nil
                refine step_insert_own (w := x6) (by rfl) (.tmp 63) (.const (.bool true)) (.const (.int .i64 0)) 40 rfl 4 3 (bool_keyed Tryd.underlying4) Tryd.underlying40 (plainElem (H := Unit) Tryd.prog 3) g2 1 _ rfl O6.out (by decide) _ _ (.bool true) rfl rfl (key_bool true) _ [] (plainElem_int Tryd.underlying3 (by decide)) ?_
                intro x7 hx7 gx7
                have O7 := Lib.hid hx7
                have B7 : Below wr.heap.size wr x7 := below_ins B6 B6.size gx7 G2
                clear hx7 gx7
                refine hK.out _ _ trivial (fun _ => ?_)
                clear hK K
                refine wpAnyH_take (i := 12) (v := ?_) rfl (by kernel_rfl) (by kernel_rfl) (by kernel_rfl) (fun _ _ _ h => h) (Or.inl ⟨by rfl, ?_⟩) (by assumption) ?_
                rotate_left
                · (intro w hSw; (try dsimp only at hSw); go_simp; try with_reducible rfl)
                refine wpAnyH_ready (rs := [15]) (by kernel_rfl) (by simp) ?_
                refine AllReadyH.cons rfl (fun K hK => ?_) <| AllReadyH.nil
                have lk := two_lookR (c := 0) (d := (j : Int)) O7.out ok
                rw [← HRR.out] at lk
                go_simp
                clear lk
                refine hK.out _ _ trivial (fun _ => ?_)
                clear hK K
                refine wpAnyH_take (i := 16) (v := ?_) rfl (by kernel_rfl) (by kernel_rfl) (by kernel_rfl) (fun _ _ _ h => h) (Or.inl ⟨by rfl, ?_⟩) (by assumption) ?_
                rotate_left
                · (intro w hSw; (try dsimp only at hSw); go_simp; try with_reducible rfl)
                refine wpAnyH_take (i := 17) (v := ?_) rfl (by kernel_rfl) (by kernel_rfl) (by kernel_rfl) (fun _ _ _ h => h) (Or.inl ⟨by rfl, ?_⟩) (by assumption) ?_
                rotate_left
                · (intro w hSw; (try dsimp only at hSw); go_simp; try with_reducible rfl)
                refine wpAnyH_take (i := 18) (v := ?_) rfl (by kernel_rfl) (by kernel_rfl) (by kernel_rfl) (fun _ _ _ h => h) (Or.inl ⟨by rfl, ?_⟩) (by assumption) ?_
                rotate_left
                · (intro w hSw; (try dsimp only at hSw); go_simp; try with_reducible rfl)
                refine wpAnyH_done (by kernel_rfl) ?_ _
                go_simp
                go_wp2_with fail
                go_ret
                exact ⟨rfl, HW.out.trans (B7.mono hwr)⟩
            · have hmm := @run_makeMap Tryd.prog
              go_simp
              clear hmm
              have B9 : Below wr.heap.size wr (W1.alloc (.map #[] 0)) := B0.alloc B0.size _
              obtain ⟨g9, hg9⟩ : ∃ g, g = W1.heap.size := ⟨_, rfl⟩
              have O9 := Lib.hid (OM.made W1)
              obtain ⟨y9, hy9⟩ : ∃ y, y = (W1.alloc (.map #[] 0)) := ⟨_, rfl⟩
              have G9 : wr.heap.size ≤ g9 := by rw [hg9]; exact B0.size
              rw [← hg9, ← hy9] at O9
              rw [← hy9] at B9
              rw [← hg9, ← hy9]
              clear hg9 hy9
              refine hK.out _ _ trivial (fun _ => ?_)
              clear hK K
              refine wpAnyH_ready (rs := [6, 8, 11]) (by kernel_rfl) (by simp) ?_
              refine AllReadyH.cons rfl (fun K hK => ?_) <| AllReadyH.cons rfl (fun K hK => ?_) <| AllReadyH.cons rfl (fun K hK => ?_) <| AllReadyH.nil
              · go_simp
                go_at_call 11
                refine (KR.out _ B9).mono ?_
                rintro e z10 ⟨rfl, hz⟩
                have B10 : Below wr.heap.size wr z10 := B9.trans (hz.mono B9.size)
                have O10 := Lib.hid (OM.below O9.out hz)
                clear hz
                go_wp2_with fail
                refine hK.out _ _ trivial (fun _ => ?_)
                clear hK K
                refine wpAnyH_ready (rs := [8, 11]) (by kernel_rfl) (by simp) ?_
                refine AllReadyH.cons rfl (fun K hK => ?_) <| AllReadyH.cons rfl (fun K hK => ?_) <| AllReadyH.nil
                · refine step_insert_own (w := z10) (by rfl) (.tmp 63) (.const (.bool true)) (.const (.int .i64 0)) 40 rfl 4 3 (bool_keyed Tryd.underlying4) Tryd.underlying40 (plainElem (H := Unit) Tryd.prog 3) g9 0 _ rfl O10.out (by decide) _ _ (.bool true) rfl rfl (key_bool true) _ [] (plainElem_int Tryd.underlying3 (by decide)) ?_
                  intro x11 hx11 gx11
                  have O11 := Lib.hid hx11
                  have B11 : Below wr.heap.size wr x11 := below_ins B10 B10.size gx11 G9
                  clear hx11 gx11
                  refine hK.out _ _ trivial (fun _ => ?_)
                  clear hK K
                  refine wpAnyH_ready (rs := [11]) (by kernel_rfl) (by simp) ?_
                  refine AllReadyH.cons rfl (fun K hK => ?_) <| AllReadyH.nil
                  refine step_insert_own (w := x11) (by rfl) (.tmp 63) (.const (.bool false)) (.tmp 65) 40 rfl 4 3 (bool_keyed Tryd.underlying4) Tryd.underlying40 (plainElem (H := Unit) Tryd.prog 3) g9 1 _ rfl O11.out (by decide) _ _ (.bool false) rfl rfl (key_bool false) _ [] (plainElem_int Tryd.underlying3 (i64_wf (by omega) (by omega))) ?_
                  intro x12 hx12 gx12
                  have O12 := Lib.hid hx12
                  have B12 : Below wr.heap.size wr x12 := below_ins B11 B11.size gx12 G9
                  clear hx12 gx12
                  refine hK.out _ _ trivial (fun _ => ?_)
                  clear hK K
                  refine wpAnyH_take (i := 12) (v := ?_) rfl (by kernel_rfl) (by kernel_rfl) (by kernel_rfl) (fun _ _ _ h => h) (Or.inl ⟨by rfl, ?_⟩) (by assumption) ?_
                  rotate_left
                  · (intro w hSw; (try dsimp only at hSw); go_simp; try with_reducible rfl)
                  refine wpAnyH_ready (rs := [15]) (by kernel_rfl) (by simp) ?_
                  refine AllReadyH.cons rfl (fun K hK => ?_) <| AllReadyH.nil
                  have lk := two_look (c := 0) (d := (j : Int)) O12.out ok
                  rw [← HRR.out] at lk
                  go_simp
                  clear lk
                  refine hK.out _ _ trivial (fun _ => ?_)
                  clear hK K
                  refine wpAnyH_take (i := 16) (v := ?_) rfl (by kernel_rfl) (by kernel_rfl) (by kernel_rfl) (fun _ _ _ h => h) (Or.inl ⟨by rfl, ?_⟩) (by assumption) ?_
                  rotate_left
                  · (intro w hSw; (try dsimp only at hSw); go_simp; try with_reducible rfl)
                  refine wpAnyH_take (i := 17) (v := ?_) rfl (by kernel_rfl) (by kernel_rfl) (by kernel_rfl) (fun _ _ _ h => h) (Or.inl ⟨by rfl, ?_⟩) (by assumption) ?_
                  rotate_left
                  · (intro w hSw; (try dsimp only at hSw); go_simp; try with_reducible rfl)
                  refine wpAnyH_take (i := 18) (v := ?_) rfl (by kernel_rfl) (by kernel_rfl) (by kernel_rfl) (fun _ _ _ h => h) (Or.inl ⟨by rfl, ?_⟩) (by assumption) ?_
                  rotate_left
                  · (intro w hSw; (try dsimp only at hSw); go_simp; try with_reducible rfl)
                  refine wpAnyH_done (by kernel_rfl) ?_ _
                  go_simp
                  go_wp2_with fail
                  go_ret
                  exact ⟨rfl, HW.out.trans (B12.mono hwr)⟩
                · refine step_insert_own (w := z10) (by rfl) (.tmp 63) (.const (.bool false)) (.tmp 65) 40 rfl 4 3 (bool_keyed Tryd.underlying4) Tryd.underlying40 (plainElem (H := Unit) Tryd.prog 3) g9 0 _ rfl O10.out (by decide) _ _ (.bool false) rfl rfl (key_bool false) _ [] (plainElem_int Tryd.underlying3 (i64_wf (by omega) (by omega))) ?_
                  intro x14 hx14 gx14
                  have O14 := Lib.hid hx14
                  have B14 : Below wr.heap.size wr x14 := below_ins B10 B10.size gx14 G9
                  clear hx14 gx14
                  refine hK.out _ _ trivial (fun _ => ?_)
                  clear hK K
                  refine wpAnyH_ready (rs := [8]) (by kernel_rfl) (by simp) ?_
                  refine AllReadyH.cons rfl (fun K hK => ?_) <| AllReadyH.nil
                  refine step_insert_own (w := x14) (by rfl) (.tmp 63) (.const (.bool true)) (.const (.int .i64 0)) 40 rfl 4 3 (bool_keyed Tryd.underlying4) Tryd.underlying40 (plainElem (H := Unit) Tryd.prog 3) g9 1 _ rfl O14.out (by decide) _ _ (.bool true) rfl rfl (key_bool true) _ [] (plainElem_int Tryd.underlying3 (by decide)) ?_
                  intro x15 hx15 gx15
                  have O15 := Lib.hid hx15
                  have B15 : Below wr.heap.size wr x15 := below_ins B14 B14.size gx15 G9
                  clear hx15 gx15
                  refine hK.out _ _ trivial (fun _ => ?_)
                  clear hK K
                  refine wpAnyH_take (i := 12) (v := ?_) rfl (by kernel_rfl) (by kernel_rfl) (by kernel_rfl) (fun _ _ _ h => h) (Or.inl ⟨by rfl, ?_⟩) (by assumption) ?_
                  rotate_left
                  · (intro w hSw; (try dsimp only at hSw); go_simp; try with_reducible rfl)
                  refine wpAnyH_ready (rs := [15]) (by kernel_rfl) (by simp) ?_
                  refine AllReadyH.cons rfl (fun K hK => ?_) <| AllReadyH.nil
                  have lk := two_lookR (c := 0) (d := (j : Int)) O15.out ok
                  rw [← HRR.out] at lk
                  go_simp
                  clear lk
                  refine hK.out _ _ trivial (fun _ => ?_)
                  clear hK K
                  refine wpAnyH_take (i := 16) (v := ?_) rfl (by kernel_rfl) (by kernel_rfl) (by kernel_rfl) (fun _ _ _ h => h) (Or.inl ⟨by rfl, ?_⟩) (by assumption) ?_
                  rotate_left
                  · (intro w hSw; (try dsimp only at hSw); go_simp; try with_reducible rfl)
                  refine wpAnyH_take (i := 17) (v := ?_) rfl (by kernel_rfl) (by kernel_rfl) (by kernel_rfl) (fun _ _ _ h => h) (Or.inl ⟨by rfl, ?_⟩) (by assumption) ?_
                  rotate_left
                  · (intro w hSw; (try dsimp only at hSw); go_simp; try with_reducible rfl)
                  refine wpAnyH_take (i := 18) (v := ?_) rfl (by kernel_rfl) (by kernel_rfl) (by kernel_rfl) (fun _ _ _ h => h) (Or.inl ⟨by rfl, ?_⟩) (by assumption) ?_
                  rotate_left
                  · (intro w hSw; (try dsimp only at hSw); go_simp; try with_reducible rfl)
                  refine wpAnyH_done (by kernel_rfl) ?_ _
                  go_simp
                  go_wp2_with fail
                  go_ret
                  exact ⟨rfl, HW.out.trans (B15.mono hwr)⟩
              · refine step_insert_own (w := y9) (by rfl) (.tmp 63) (.const (.bool true)) (.const (.int .i64 0)) 40 rfl 4 3 (bool_keyed Tryd.underlying4) Tryd.underlying40 (plainElem (H := Unit) Tryd.prog 3) g9 0 _ rfl O9.out (by decide) _ _ (.bool true) rfl rfl (key_bool true) _ [] (plainElem_int Tryd.underlying3 (by decide)) ?_
                intro x17 hx17 gx17
                have O17 := Lib.hid hx17
                have B17 : Below wr.heap.size wr x17 := below_ins B9 B9.size gx17 G9
                clear hx17 gx17
                refine hK.out _ _ trivial (fun _ => ?_)
                clear hK K
                refine wpAnyH_ready (rs := [6, 11]) (by kernel_rfl) (by simp) ?_
                refine AllReadyH.cons rfl (fun K hK => ?_) <| AllReadyH.cons rfl (fun K hK => ?_) <| AllReadyH.nil
                · go_simp
                  go_at_call 11
                  refine (KR.out _ B17).mono ?_
                  rintro e z18 ⟨rfl, hz⟩
                  have B18 : Below wr.heap.size wr z18 := B17.trans (hz.mono B17.size)
                  have O18 := Lib.hid (OM.below O17.out hz)
                  clear hz
                  go_wp2_with fail
                  refine hK.out _ _ trivial (fun _ => ?_)
                  clear hK K
                  refine wpAnyH_ready (rs := [11]) (by kernel_rfl) (by simp) ?_
                  refine AllReadyH.cons rfl (fun K hK => ?_) <| AllReadyH.nil
                  refine step_insert_own (w := z18) (by rfl) (.tmp 63) (.const (.bool false)) (.tmp 65) 40 rfl 4 3 (bool_keyed Tryd.underlying4) Tryd.underlying40 (plainElem (H := Unit) Tryd.prog 3) g9 1 _ rfl O18.out (by decide) _ _ (.bool false) rfl rfl (key_bool false) _ [] (plainElem_int Tryd.underlying3 (i64_wf (by omega) (by omega))) ?_
                  intro x19 hx19 gx19
                  have O19 := Lib.hid hx19
                  have B19 : Below wr.heap.size wr x19 := below_ins B18 B18.size gx19 G9
                  clear hx19 gx19
                  refine hK.out _ _ trivial (fun _ => ?_)
                  clear hK K
                  refine wpAnyH_take (i := 12) (v := ?_) rfl (by kernel_rfl) (by kernel_rfl) (by kernel_rfl) (fun _ _ _ h => h) (Or.inl ⟨by rfl, ?_⟩) (by assumption) ?_
                  rotate_left
                  · (intro w hSw; (try dsimp only at hSw); go_simp; try with_reducible rfl)
                  refine wpAnyH_ready (rs := [15]) (by kernel_rfl) (by simp) ?_
                  refine AllReadyH.cons rfl (fun K hK => ?_) <| AllReadyH.nil
                  have lk := two_look (c := 0) (d := (j : Int)) O19.out ok
                  rw [← HRR.out] at lk
                  go_simp
                  clear lk
                  refine hK.out _ _ trivial (fun _ => ?_)
                  clear hK K
                  refine wpAnyH_take (i := 16) (v := ?_) rfl (by kernel_rfl) (by kernel_rfl) (by kernel_rfl) (fun _ _ _ h => h) (Or.inl ⟨by rfl, ?_⟩) (by assumption) ?_
                  rotate_left
                  · (intro w hSw; (try dsimp only at hSw); go_simp; try with_reducible rfl)
                  refine wpAnyH_take (i := 17) (v := ?_) rfl (by kernel_rfl) (by kernel_rfl) (by kernel_rfl) (fun _ _ _ h => h) (Or.inl ⟨by rfl, ?_⟩) (by assumption) ?_
                  rotate_left
                  · (intro w hSw; (try dsimp only at hSw); go_simp; try with_reducible rfl)
                  refine wpAnyH_take (i := 18) (v := ?_) rfl (by kernel_rfl) (by kernel_rfl) (by kernel_rfl) (fun _ _ _ h => h) (Or.inl ⟨by rfl, ?_⟩) (by assumption) ?_
                  rotate_left
                  · (intro w hSw; (try dsimp only at hSw); go_simp; try with_reducible rfl)
                  refine wpAnyH_done (by kernel_rfl) ?_ _
                  go_simp
                  go_wp2_with fail
                  go_ret
                  exact ⟨rfl, HW.out.trans (B19.mono hwr)⟩
                · refine step_insert_own (w := x17) (by rfl) (.tmp 63) (.const (.bool false)) (.tmp 65) 40 rfl 4 3 (bool_keyed Tryd.underlying4) Tryd.underlying40 (plainElem (H := Unit) Tryd.prog 3) g9 1 _ rfl O17.out (by decide) _ _ (.bool false) rfl rfl (key_bool false) _ [] (plainElem_int Tryd.underlying3 (i64_wf (by omega) (by omega))) ?_
                  intro x21 hx21 gx21
                  have O21 := Lib.hid hx21
                  have B21 : Below wr.heap.size wr x21 := below_ins B17 B17.size gx21 G9
                  clear hx21 gx21
                  refine hK.out _ _ trivial (fun _ => ?_)
                  clear hK K
                  refine wpAnyH_take (i := 12) (v := ?_) rfl (by kernel_rfl) (by kernel_rfl) (by kernel_rfl) (fun _ _ _ h => h) (Or.inl ⟨by rfl, ?_⟩) (by assumption) ?_
                  rotate_left
                  · (intro w hSw; (try dsimp only at hSw); go_simp; try with_reducible rfl)
                  refine wpAnyH_ready (rs := [6, 15]) (by kernel_rfl) (by simp) ?_
                  refine AllReadyH.cons rfl (fun K hK => ?_) <| AllReadyH.cons rfl (fun K hK => ?_) <| AllReadyH.nil
                  · go_simp
                    go_at_call 11
                    refine (KR.out _ B21).mono ?_
                    rintro e z22 ⟨rfl, hz⟩
                    have B22 : Below wr.heap.size wr z22 := B21.trans (hz.mono B21.size)
                    have O22 := Lib.hid (OM.below O21.out hz)
                    clear hz
                    go_wp2_with fail
                    refine hK.out _ _ trivial (fun _ => ?_)
                    clear hK K
                    refine wpAnyH_ready (rs := [15]) (by kernel_rfl) (by simp) ?_
                    refine AllReadyH.cons rfl (fun K hK => ?_) <| AllReadyH.nil
                    have lk := two_look (c := 0) (d := (j : Int)) O22.out ok
                    rw [← HRR.out] at lk
                    go_simp
                    clear lk
                    refine hK.out _ _ trivial (fun _ => ?_)
                    clear hK K
                    refine wpAnyH_take (i := 16) (v := ?_) rfl (by kernel_rfl) (by kernel_rfl) (by kernel_rfl) (fun _ _ _ h => h) (Or.inl ⟨by rfl, ?_⟩) (by assumption) ?_
                    rotate_left
                    · (intro w hSw; (try dsimp only at hSw); go_simp; try with_reducible rfl)
                    refine wpAnyH_take (i := 17) (v := ?_) rfl (by kernel_rfl) (by kernel_rfl) (by kernel_rfl) (fun _ _ _ h => h) (Or.inl ⟨by rfl, ?_⟩) (by assumption) ?_
                    rotate_left
                    · (intro w hSw; (try dsimp only at hSw); go_simp; try with_reducible rfl)
                    refine wpAnyH_take (i := 18) (v := ?_) rfl (by kernel_rfl) (by kernel_rfl) (by kernel_rfl) (fun _ _ _ h => h) (Or.inl ⟨by rfl, ?_⟩) (by assumption) ?_
                    rotate_left
                    · (intro w hSw; (try dsimp only at hSw); go_simp; try with_reducible rfl)
                    refine wpAnyH_done (by kernel_rfl) ?_ _
                    go_simp
                    go_wp2_with fail
                    go_ret
                    exact ⟨rfl, HW.out.trans (B22.mono hwr)⟩
                  · have lk := two_look (c := 0) (d := (j : Int)) O21.out ok
                    rw [← HRR.out] at lk
                    go_simp
                    clear lk
                    refine hK.out _ _ trivial (fun _ => ?_)
                    clear hK K
                    refine wpAnyH_ready (rs := [6]) (by kernel_rfl) (by simp) ?_
                    refine AllReadyH.cons rfl (fun K hK => ?_) <| AllReadyH.nil
                    go_simp
                    go_at_call 11
                    refine (KR.out _ B21).mono ?_
                    rintro e z25 ⟨rfl, hz⟩
                    have B25 : Below wr.heap.size wr z25 := B21.trans (hz.mono B21.size)
                    clear hz
                    go_wp2_with fail
                    refine hK.out _ _ trivial (fun _ => ?_)
                    clear hK K
                    refine wpAnyH_take (i := 16) (v := ?_) rfl (by kernel_rfl) (by kernel_rfl) (by kernel_rfl) (fun _ _ _ h => h) (Or.inl ⟨by rfl, ?_⟩) (by assumption) ?_
                    rotate_left
                    · (intro w hSw; (try dsimp only at hSw); go_simp; try with_reducible rfl)
                    refine wpAnyH_take (i := 17) (v := ?_) rfl (by kernel_rfl) (by kernel_rfl) (by kernel_rfl) (fun _ _ _ h => h) (Or.inl ⟨by rfl, ?_⟩) (by assumption) ?_
                    rotate_left
                    · (intro w hSw; (try dsimp only at hSw); go_simp; try with_reducible rfl)
                    refine wpAnyH_take (i := 18) (v := ?_) rfl (by kernel_rfl) (by kernel_rfl) (by kernel_rfl) (fun _ _ _ h => h) (Or.inl ⟨by rfl, ?_⟩) (by assumption) ?_
                    rotate_left
                    · (intro w hSw; (try dsimp only at hSw); go_simp; try with_reducible rfl)
                    refine wpAnyH_done (by kernel_rfl) ?_ _
                    go_simp
                    go_wp2_with fail
                    go_ret
                    exact ⟨rfl, HW.out.trans (B25.mono hwr)⟩
              · refine step_insert_own (w := y9) (by rfl) (.tmp 63) (.const (.bool false)) (.tmp 65) 40 rfl 4 3 (bool_keyed Tryd.underlying4) Tryd.underlying40 (plainElem (H := Unit) Tryd.prog 3) g9 0 _ rfl O9.out (by decide) _ _ (.bool false) rfl rfl (key_bool false) _ [] (plainElem_int Tryd.underlying3 (i64_wf (by omega) (by omega))) ?_
                intro x26 hx26 gx26
                have O26 := Lib.hid hx26
                have B26 : Below wr.heap.size wr x26 := below_ins B9 B9.size gx26 G9
                clear hx26 gx26
                refine hK.out _ _ trivial (fun _ => ?_)
                clear hK K
                refine wpAnyH_ready (rs := [6, 8]) (by kernel_rfl) (by simp) ?_
                refine AllReadyH.cons rfl (fun K hK => ?_) <| AllReadyH.cons rfl (fun K hK => ?_) <| AllReadyH.nil
                · go_simp
                  go_at_call 11
                  refine (KR.out _ B26).mono ?_
                  rintro e z27 ⟨rfl, hz⟩
                  have B27 : Below wr.heap.size wr z27 := B26.trans (hz.mono B26.size)
                  have O27 := Lib.hid (OM.below O26.out hz)
                  clear hz
                  go_wp2_with fail
                  refine hK.out _ _ trivial (fun _ => ?_)
                  clear hK K
                  refine wpAnyH_ready (rs := [8]) (by kernel_rfl) (by simp) ?_
                  refine AllReadyH.cons rfl (fun K hK => ?_) <| AllReadyH.nil
                  refine step_insert_own (w := z27) (by rfl) (.tmp 63) (.const (.bool true)) (.const (.int .i64 0)) 40 rfl 4 3 (bool_keyed Tryd.underlying4) Tryd.underlying40 (plainElem (H := Unit) Tryd.prog 3) g9 1 _ rfl O27.out (by decide) _ _ (.bool true) rfl rfl (key_bool true) _ [] (plainElem_int Tryd.underlying3 (by decide)) ?_
                  intro x28 hx28 gx28
                  have O28 := Lib.hid hx28
                  have B28 : Below wr.heap.size wr x28 := below_ins B27 B27.size gx28 G9
                  clear hx28 gx28
                  refine hK.out _ _ trivial (fun _ => ?_)
                  clear hK K
                  refine wpAnyH_take (i := 12) (v := ?_) rfl (by kernel_rfl) (by kernel_rfl) (by kernel_rfl) (fun _ _ _ h => h) (Or.inl ⟨by rfl, ?_⟩) (by assumption) ?_
                  rotate_left
                  · (intro w hSw; (try dsimp only at hSw); go_simp; try with_reducible rfl)
                  refine wpAnyH_ready (rs := [15]) (by kernel_rfl) (by simp) ?_
                  refine AllReadyH.cons rfl (fun K hK => ?_) <| AllReadyH.nil
                  have lk := two_lookR (c := 0) (d := (j : Int)) O28.out ok
                  rw [← HRR.out] at lk
                  go_simp
                  clear lk
                  refine hK.out _ _ trivial (fun _ => ?_)
                  clear hK K
                  refine wpAnyH_take (i := 16) (v := ?_) rfl (by kernel_rfl) (by kernel_rfl) (by kernel_rfl) (fun _ _ _ h => h) (Or.inl ⟨by rfl, ?_⟩) (by assumption) ?_
                  rotate_left
                  · (intro w hSw; (try dsimp only at hSw); go_simp; try with_reducible rfl)
                  refine wpAnyH_take (i := 17) (v := ?_) rfl (by kernel_rfl) (by kernel_rfl) (by kernel_rfl) (fun _ _ _ h => h) (Or.inl ⟨by rfl, ?_⟩) (by assumption) ?_
                  rotate_left
                  · (intro w hSw; (try dsimp only at hSw); go_simp; try with_reducible rfl)
                  refine wpAnyH_take (i := 18) (v := ?_) rfl (by kernel_rfl) (by kernel_rfl) (by kernel_rfl) (fun _ _ _ h => h) (Or.inl ⟨by rfl, ?_⟩) (by assumption) ?_
                  rotate_left
                  · (intro w hSw; (try dsimp only at hSw); go_simp; try with_reducible rfl)
                  refine wpAnyH_done (by kernel_rfl) ?_ _
                  go_simp
                  go_wp2_with fail
                  go_ret
                  exact ⟨rfl, HW.out.trans (B28.mono hwr)⟩
                · refine step_insert_own (w := x26) (by rfl) (.tmp 63) (.const (.bool true)) (.const (.int .i64 0)) 40 rfl 4 3 (bool_keyed Tryd.underlying4) Tryd.underlying40 (plainElem (H := Unit) Tryd.prog 3) g9 1 _ rfl O26.out (by decide) _ _ (.bool true) rfl rfl (key_bool true) _ [] (plainElem_int Tryd.underlying3 (by decide)) ?_
                  intro x30 hx30 gx30
                  have O30 := Lib.hid hx30
                  have B30 : Below wr.heap.size wr x30 := below_ins B26 B26.size gx30 G9
                  clear hx30 gx30
                  refine hK.out _ _ trivial (fun _ => ?_)
                  clear hK K
                  refine wpAnyH_take (i := 12) (v := ?_) rfl (by kernel_rfl) (by kernel_rfl) (by kernel_rfl) (fun _ _ _ h => h) (Or.inl ⟨by rfl, ?_⟩) (by assumption) ?_
                  rotate_left
                  · (intro w hSw; (try dsimp only at hSw); go_simp; try with_reducible rfl)
                  refine wpAnyH_ready (rs := [6, 15]) (by kernel_rfl) (by simp) ?_
                  refine AllReadyH.cons rfl (fun K hK => ?_) <| AllReadyH.cons rfl (fun K hK => ?_) <| AllReadyH.nil
                  · go_simp
                    go_at_call 11
                    refine (KR.out _ B30).mono ?_
                    rintro e z31 ⟨rfl, hz⟩
                    have B31 : Below wr.heap.size wr z31 := B30.trans (hz.mono B30.size)
                    have O31 := Lib.hid (OM.below O30.out hz)
                    clear hz
                    go_wp2_with fail
                    refine hK.out _ _ trivial (fun _ => ?_)
                    clear hK K
                    refine wpAnyH_ready (rs := [15]) (by kernel_rfl) (by simp) ?_
                    refine AllReadyH.cons rfl (fun K hK => ?_) <| AllReadyH.nil
                    have lk := two_lookR (c := 0) (d := (j : Int)) O31.out ok
                    rw [← HRR.out] at lk
                    go_simp
                    clear lk
                    refine hK.out _ _ trivial (fun _ => ?_)
                    clear hK K
                    refine wpAnyH_take (i := 16) (v := ?_) rfl (by kernel_rfl) (by kernel_rfl) (by kernel_rfl) (fun _ _ _ h => h) (Or.inl ⟨by rfl, ?_⟩) (by assumption) ?_
                    rotate_left
                    · (intro w hSw; (try dsimp only at hSw); go_simp; try with_reducible rfl)
                    refine wpAnyH_take (i := 17) (v := ?_) rfl (by kernel_rfl) (by kernel_rfl) (by kernel_rfl) (fun _ _ _ h => h) (Or.inl ⟨by rfl, ?_⟩) (by assumption) ?_
                    rotate_left
                    · (intro w hSw; (try dsimp only at hSw); go_simp; try with_reducible rfl)
                    refine wpAnyH_take (i := 18) (v := ?_) rfl (by kernel_rfl) (by kernel_rfl) (by kernel_rfl) (fun _ _ _ h => h) (Or.inl ⟨by rfl, ?_⟩) (by assumption) ?_
                    rotate_left
                    · (intro w hSw; (try dsimp only at hSw); go_simp; try with_reducible rfl)
                    refine wpAnyH_done (by kernel_rfl) ?_ _
                    go_simp
                    go_wp2_with fail
                    go_ret
                    exact ⟨rfl, HW.out.trans (B31.mono hwr)⟩
                  · have lk := two_lookR (c := 0) (d := (j : Int)) O30.out ok
                    rw [← HRR.out] at lk
                    go_simp
                    clear lk
                    refine hK.out _ _ trivial (fun _ => ?_)
                    clear hK K
                    refine wpAnyH_ready (rs := [6]) (by kernel_rfl) (by simp) ?_
                    refine AllReadyH.cons rfl (fun K hK => ?_) <| AllReadyH.nil
                    go_simp
                    go_at_call 11
                    refine (KR.out _ B30).mono ?_
                    rintro e z34 ⟨rfl, hz⟩
                    have B34 : Below wr.heap.size wr z34 := B30.trans (hz.mono B30.size)
                    clear hz
                    go_wp2_with fail
                    refine hK.out _ _ trivial (fun _ => ?_)
                    clear hK K
                    refine wpAnyH_take (i := 16) (v := ?_) rfl (by kernel_rfl) (by kernel_rfl) (by kernel_rfl) (fun _ _ _ h => h) (Or.inl ⟨by rfl, ?_⟩) (by assumption) ?_
                    rotate_left
                    · (intro w hSw; (try dsimp only at hSw); go_simp; try with_reducible rfl)
                    refine wpAnyH_take (i := 17) (v := ?_) rfl (by kernel_rfl) (by kernel_rfl) (by kernel_rfl) (fun _ _ _ h => h) (Or.inl ⟨by rfl, ?_⟩) (by assumption) ?_
                    rotate_left
                    · (intro w hSw; (try dsimp only at hSw); go_simp; try with_reducible rfl)
                    refine wpAnyH_take (i := 18) (v := ?_) rfl (by kernel_rfl) (by kernel_rfl) (by kernel_rfl) (fun _ _ _ h => h) (Or.inl ⟨by rfl, ?_⟩) (by assumption) ?_
                    rotate_left
                    · (intro w hSw; (try dsimp only at hSw); go_simp; try with_reducible rfl)
                    refine wpAnyH_done (by kernel_rfl) ?_ _
                    go_simp
                    go_wp2_with fail
                    go_ret
                    exact ⟨rfl, HW.out.trans (B34.mono hwr)⟩
end Go.Proofs.YtfhpckglckcdjaaDoor
