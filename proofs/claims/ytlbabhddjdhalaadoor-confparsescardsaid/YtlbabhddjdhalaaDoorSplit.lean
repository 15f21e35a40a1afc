/- split: the words of what is said; addWord. -/
import Derived.Test.YtlbabhddjdhalaaDoorRcut
import Derived.Test.YtlbabhddjdhalaaDoorShelf
namespace Go.Proofs.YtlbabhddjdhalaaDoor
open Go.RowKit Go.Proofs.Lx

set_option maxRecDepth 100000 in
theorem clone_any (s : ByteArray) (w : World) (hs : s.size ≤ 1000000) :
    Calls Tryd.prog 77 #[.string s] w fun e w' => e = .returned (.string s) ∧ Below w.heap.size w w' := by
  go_enter Tryd.func77, Tryd.ntmps77
  go_wp2_with (go_at_call 83; refine (Tryd.stringslite_Clone s _ (by omega)).mono ?_; rintro e w1 ⟨rfl, hb1⟩)
  go_ret
  exact ⟨rfl, hb1⟩

set_option maxRecDepth 100000 in
set_option maxHeartbeats 2000000 in
theorem addWord_any (s : ByteArray) (v : Value) (acc : List Bs) (B : Nat) (w : World) (hs : s.size ≤ 1000000) (hB : B ≤ w.heap.size) (hv : Strs w B v acc) (hl : acc.length ≤ 1000000) :
    Calls Tryd.prog 66 #[v, .string s] w fun e w' => ∃ v', e = .returned v' ∧ Strs w' B v' (addW acc s.data.toList) ∧ w.grownBy w' v.ownBlock := by
  obtain ⟨i0, hi, hz0, hz1, hz2⟩ := info_parts Tryd.info9
  have HV := Lib.hid hv
  clear hv
  by_cases hne : s.data.toList = []
  · have hE : s.toList.isEmpty = true := by rw [ByteArray.toList_eq, hne]; rfl
    have HN := Lib.hid hne
    clear hne
    go_enter Tryd.func66, Tryd.ntmps66
    go_wp2
    go_ret
    exact ⟨v, rfl, by rw [HN.out]; exact HV.out, World.grownBy.refl _ _⟩
  · have hE : s.toList.isEmpty = false := by rw [ByteArray.toList_eq]; simpa using hne
    have HN : Hid (addW acc s.data.toList = acc ++ [s.data.toList]) := if_neg hne
    clear hne
    go_enter Tryd.func66, Tryd.ntmps66
    go_wp2_with (first
      | (go_at_call 77; refine (clone_any s _ hs).mono ?_; rintro e w1 ⟨rfl, hb1⟩; have hbs := hb1.size; have HO : Hid (w1.ownsRow B 9 1 v acc.length (acc.map Str)) := HV.out.below hb1 (Nat.le_refl _))
      | (at_builtin; refine wpList_append_own _ rfl (.tmp 8) (.tmp 11) 39 rfl B 9 i0 (.string ByteArray.empty) 1 16 Tryd.underlying39 hi hz0 hz1 hz2 rfl (by decide) _ _ _ rfl (HO.out.alloc _) ⟨w1.heap.size, 0, none⟩ 1 1 [.string s] rfl rfl (cell_one_new _ _ _) (one_str _) (by unfold maxLen; omega) (by omega) (by simp; omega) ?_; intro v' w2 hown' hgrow _))
    go_ret
    refine ⟨v', rfl, by rw [HN.out]; exact strs_snoc hown', ?_⟩
    exact grown_trans (grown_trans (grown_of_below hb1 (Nat.le_refl _) _) (grown_of_below ((Below.refl _ _).alloc (Nat.le_refl _) _) (Nat.le_refl _) _) (.inl rfl)) hgrow (.inl rfl)

theorem wrd_blank (s : ByteArray) (acc : List Bs) (cur : Bs) (j : Nat) (h : j < s.size) (h2 : (s[j].toNat : Int) = 32 ∨ (s[j].toNat : Int) = 9) : wrd acc cur (s.data.toList.drop j) = wrd (addW acc cur) [] (s.data.toList.drop (j + 1)) := by
  rw [drop_at s j h, wrd, if_pos ((blankB_iff _).2 h2)]
theorem wrd_letter (s : ByteArray) (acc : List Bs) (cur : Bs) (j : Nat) (h : j < s.size) (h2 : ¬ ((s[j].toNat : Int) = 32 ∨ (s[j].toNat : Int) = 9)) : wrd acc cur (s.data.toList.drop j) = wrd acc (cur ++ [s[j]]) (s.data.toList.drop (j + 1)) := by
  rw [drop_at s j h, wrd, if_neg (by rw [blankB_iff]; exact h2)]
theorem plain_at (s : ByteArray) (h : plainB s.data.toList = true) (i : Nat) (hi : i < s.size) : (s[i]'hi).toNat < 128 := by
  unfold plainB at h
  rw [List.all_eq_true] at h
  have := (okB_iff _).1 (h (s[i]'hi) (by show s.data[i] ∈ s.data.toList; exact Array.mem_def.1 (Array.getElem_mem _)))
  omega
theorem ext_size (s : ByteArray) (a b : Nat) (h : s.size ≤ 100000) : (s.extract a b).size ≤ 1000000 := by rw [ByteArray.size_extract]; omega

set_option maxRecDepth 100000 in
set_option maxHeartbeats 4000000 in
theorem split_any (s : ByteArray) (w : World) (hs : s.size ≤ 100000) (hp : plainB s.data.toList = true) :
    Calls Tryd.prog 47 #[.string s] w fun e w' => ∃ v, e = .returned v ∧ Strs w' w.heap.size v (wordsOf s.data.toList) ∧ Below w.heap.size w w' := by
  have KA := Lib.hid (plain_at s hp)
  clear hp
  go_enter Tryd.func47, Tryd.ntmps47
  go_wp2
  go_loopw [3, 4] (fun v f wr => ∃ (j g : Nat) (acc : List Bs), j ≤ s.size ∧ g ≤ j ∧ f = .int .i64 g ∧ acc.length ≤ j ∧ wr.heap[w.heap.size]? = some (.stringIter s j) ∧ Hid (Strs wr w.heap.size v acc) ∧ Below w.heap.size w wr ∧ Hid (wordsOf s.data.toList = wrd acc ((s.data.toList.take j).drop g) (s.data.toList.drop j))) (fun _ _ wr => s.size - wr.iterPos w.heap.size)
  case atStart => exact ⟨0, 0, [], Nat.zero_le _, Nat.le_refl _, rfl, Nat.le_refl _, World.iter_heap w s 0, Strs.nil _ _, (Below.refl _ _).alloc (Nat.le_refl _) _, rfl⟩
  case round =>
    obtain ⟨j, g, acc, hj, hg, rfl, hal, hit, HS, hb, HC⟩ := hrel
    have hpos0 := iterPos_of hit
    by_cases hp : j < s.size
    · have hnx : ∀ ty, (Instr.next (.pointer (some ⟨w.heap.size, 0, none⟩)) true ty).run Tryd.prog wr = _ := fun ty => Lib.run_next_ascii_at wr w.heap.size s j ty hit hp (KA.out j hp)
      have hit2 := Lib.iterAt_heap wr w.heap.size s j (j + 1) hit
      have hb2 := Lib.below_iterAt hb (k := w.heap.size) (Nat.le_refl _) s (j + 1)
      have HS2 : Hid (Strs (wr.iterAt w.heap.size s (j + 1)) w.heap.size _ acc) := own_iter HS.out hit (j + 1)
      obtain ⟨W1, hW1⟩ : ∃ W1, W1 = wr.iterAt w.heap.size s (j + 1) := ⟨_, rfl⟩
      rw [← hW1] at hnx hit2 hb2 HS2
      have HIT := Lib.hid hit2
      have hbs := hb2.size
      clear hW1 hit HS hb hit2
      by_cases hbl : (s[j].toNat : Int) = 32 ∨ (s[j].toNat : Int) = 9
      · have HC2 := Lib.hid (HC.out.trans (wrd_blank s _ _ j hp hbl))
        clear HC
        have hcase : ((s[j].toNat : Int) == 32) = true ∨ (((s[j].toNat : Int) == 32) = false ∧ ((s[j].toNat : Int) == 9) = true) := by
          by_cases h : (s[j].toNat : Int) = 32
          · exact .inl (beqT h)
          · exact .inr ⟨beqF h, beqT (by omega)⟩
        clear hbl
        rcases hcase with b32 | ⟨b32, b9⟩
        all_goals
          go_wp2_with (go_at_call 66; refine (addWord_any (s.extract g j) _ acc w.heap.size W1 (ext_size s g j hs) hbs HS2.out (by omega)).mono ?_; rintro e w2 ⟨v', rfl, hs2, hg2⟩)
          have hit3 : w2.heap[w.heap.size]? = some (.stringIter s (j + 1)) := by
            rw [hg2.block w.heap.size ((Array.getElem?_eq_some_iff.1 HIT.out).1) (own_not_iter HS2.out HIT.out)]; exact HIT.out
          have hb3 : Below w.heap.size w w2 := Below.grown hb2 hg2 hbs (fun k hk => (HS2.out.lt k hk).1)
          rw [ext_list] at hs2
          have hal2 := addW_len acc ((s.data.toList.take j).drop g)
          go_roundw
          case rel => exact ⟨j + 1, j + 1, _, by omega, Nat.le_refl _, by go_num, by omega, hit3, hs2, hb3, by rw [cur_new]; exact HC2.out⟩
          case measure => rw [iterPos_of hit3, hpos0]; omega
      · have HC2 := Lib.hid (HC.out.trans (wrd_letter s _ _ j hp hbl))
        have b32 : ((s[j].toNat : Int) == 32) = false := beqF (fun h => hbl (.inl h))
        have b9 : ((s[j].toNat : Int) == 9) = false := beqF (fun h => hbl (.inr h))
        clear HC hbl
        go_wp2
        go_roundw
        case rel => exact ⟨j + 1, g, acc, by omega, by omega, rfl, by omega, HIT, HS2, hb2, by rw [cur_snoc s g j hg hp]; exact HC2.out⟩
        case measure => rw [iterPos_of HIT.out, hpos0]; omega
    · obtain rfl : j = s.size := by omega
      have hnx : ∀ ty, (Instr.next (.pointer (some ⟨w.heap.size, 0, none⟩)) true ty).run Tryd.prog wr = _ := fun ty => Lib.run_next_end_at wr w.heap.size s s.size ty hit hp
      have HC2 : Hid (wordsOf s.data.toList = addW acc ((s.data.toList.take s.size).drop g)) := by
        have := HC.out
        rw [drop_end s s.size (by omega)] at this
        exact this
      have hbs := hb.size
      clear HC hit
      go_wp2_with (go_at_call 66; refine (addWord_any (s.extract g s.size) _ acc w.heap.size wr (ext_size s g s.size hs) hbs HS.out (by omega)).mono ?_; rintro e w2 ⟨v', rfl, hs2, hg2⟩)
      have hb3 : Below w.heap.size w w2 := Below.grown hb hg2 hbs (fun k hk => (HS.out.lt k hk).1)
      rw [ext_list] at hs2
      go_ret
      exact ⟨v', rfl, by rw [HC2.out]; exact hs2, hb3⟩
end Go.Proofs.YtlbabhddjdhalaaDoor
