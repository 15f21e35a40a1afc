/- LexNumbers' and LexBack's walks. -/
import Derived.Test.YtclcnmmhmjbjjaaDoorDigits
namespace Go.Proofs.YtclcnmmhmjbjjaaDoor
open Go.RowKit Go.Proofs.Lx

set_option maxRecDepth 100000 in
set_option maxHeartbeats 4000000 in
theorem walk_lexNumbers (s0 : ByteArray) (a1 : Int) (w : World) (w0 : s0.size ≤ maxLen) (w1 : (Lit.int .i64 a1).wf = true) (hm : Mx w) (ht : Pow w) :
    Calls Tryd.prog 4 #[.string s0, .int .i64 a1] w fun e w' => e = .returned (.bool true) ∧ Below w.heap.size w w' := by
  obtain ⟨bl, bu⟩ := bounds_i64 w1
  unfold maxLen at w0
  have HM := Lib.hid hm
  have HT := Lib.hid ht
  clear hm ht w1
  by_cases hl : (1000 : Int) < (s0.size : Int)
  · go_enter Tryd.func4, Tryd.ntmps4
    go_wp2_with (go_at_call 10; refine (alive_any w HM.out).mono ?_; rintro e w1 ⟨rfl, hb1⟩)
    go_ret
    exact ⟨rfl, hb1⟩
  · have K14 := Lib.hid (number_any s0)
    have K15 := Lib.hid (fun w => rnumber_any s0 w (by omega))
    have K16 := Lib.hid (fun w h => text_any a1 w bl bu h)
    have K17 := Lib.hid (rtext_any a1)
    obtain ⟨x, hx⟩ : ∃ x, x = (number s0.data.toList).1 := ⟨_, rfl⟩
    obtain ⟨y, hy⟩ : ∃ y, y = (number s0.data.toList).2 := ⟨_, rfl⟩
    rw [← hx, ← hy] at K14 K15
    obtain ⟨t, hT⟩ : ∃ t, t = textS a1 := ⟨_, rfl⟩
    rw [← hT] at K16 K17
    clear hx hy hT
    go_enter Tryd.func4, Tryd.ntmps4
    go_wp2_with (first
      | (go_at_call 14; refine (K14.out w).mono ?_; rintro e w1 ⟨rfl, hb1⟩)
      | (go_at_call 15; refine (K15.out w1).mono ?_; rintro e w2 ⟨rfl, rfl⟩)
      | (go_at_call 10; refine (alive_any w1 (HM.out.below hb1 (Nat.le_refl _))).mono ?_; rintro e w3 ⟨rfl, hb3⟩)
      | (go_at_call 16; refine (K16.out w3 ((HT.out.below hb1 (Nat.le_refl _)).below hb3 (Nat.le_refl _))).mono ?_; rintro e w4 ⟨rfl, hb4⟩)
      | (go_at_call 17; refine (K17.out w4).mono ?_; rintro e w5 ⟨rfl, hb5⟩))
    go_ret
    have s1 := hb1.size
    have s3 := hb3.size
    have s4 := hb4.size
    exact ⟨rfl, ((hb1.trans (hb3.mono s1)).trans (hb4.mono (by omega))).trans (hb5.mono (by omega))⟩

theorem text_ne (n : Int) (h : 0 ≤ n ∧ n ≤ 1000000000) : (textS n).toList.isEmpty = false := by
  rw [ByteArray.toList_eq, textS_list]
  unfold textOf
  rw [if_pos h]
  simpa using dec_ne n.toNat
theorem text_em (n : Int) (h : ¬ (0 ≤ n ∧ n ≤ 1000000000)) : (textS n).toList.isEmpty = true := by
  rw [ByteArray.toList_eq, textS_list]
  unfold textOf
  rw [if_neg h]; rfl
theorem number_text (n : Int) (h : 0 ≤ n ∧ n ≤ 1000000000) (w : World) : Calls Tryd.prog 14 #[.string (textS n)] w fun e w' => e = .returned (.tuple #[.int .i64 n, .int .i64 0]) ∧ Below w.heap.size w w' := by
  have := number_any (textS n) w
  rw [textS_list] at this
  unfold textOf at this
  rw [if_pos h, number_dec n.toNat (by omega)] at this
  rw [show ((n.toNat : Nat) : Int) = n by omega] at this
  exact this
theorem text_number (l : ByteArray) (w : World) (h : (number l.data.toList).2 = 0) (ht : Pow w) : Calls Tryd.prog 16 #[.int .i64 ((number l.data.toList).1 : Nat)] w fun e w' => e = .returned (.string l) ∧ Below w.heap.size w w' := by
  obtain ⟨h1, h2⟩ := number_back l.data.toList (number l.data.toList).1 (by rw [← h])
  have := text_any ((number l.data.toList).1 : Nat) w (by omega) (by omega) ht
  rw [textS_dec _ h1, h2] at this
  exact this
theorem lists_beq (s : ByteArray) : (s.toList == s.toList) = true := by simp

set_option maxRecDepth 100000 in
set_option maxHeartbeats 4000000 in
theorem walk_lexBack (a0 : Int) (s1 : ByteArray) (w : World) (w0 : (Lit.int .i64 a0).wf = true) (_ : s1.size ≤ maxLen) (hm : Mx w) (ht : Pow w) :
    Calls Tryd.prog 7 #[.int .i64 a0, .string s1] w fun e w' => e = .returned (.bool true) ∧ Below w.heap.size w w' := by
  obtain ⟨bl, bu⟩ := bounds_i64 w0
  have HM := Lib.hid hm
  have HT := Lib.hid ht
  clear hm ht w0
  by_cases hl : (1000 : Int) < (s1.size : Int)
  · go_enter Tryd.func7, Tryd.ntmps7
    go_wp2_with (go_at_call 10; refine (alive_any w HM.out).mono ?_; rintro e w1 ⟨rfl, hb1⟩)
    go_ret
    exact ⟨rfl, hb1⟩
  · have K14 := Lib.hid (number_any s1)
    have K16 := Lib.hid (fun w h => text_any a0 w bl bu h)
    have KB0 := Lib.hid (text_number s1)
    have hz0 := number_zero_of s1.data.toList
    obtain ⟨x, hx⟩ : ∃ x, x = (number s1.data.toList).1 := ⟨_, rfl⟩
    obtain ⟨y, hy⟩ : ∃ y, y = (number s1.data.toList).2 := ⟨_, rfl⟩
    rw [← hx, ← hy] at K14 KB0 hz0
    clear hx hy
    have hcase : (y = 0 ∧ Hid (∀ w, Pow w → Calls Tryd.prog 16 #[.int .i64 (x : Nat)] w fun e w' => e = .returned (.string s1) ∧ Below w.heap.size w w')) ∨ (((y : Int) != 0) = true ∧ x = 0) := by
      by_cases h : y = 0
      · exact .inl ⟨h, fun w ht => KB0.out w h ht⟩
      · exact .inr ⟨bneT (by omega), hz0 h⟩
    clear KB0 hz0
    by_cases hr : 0 ≤ a0 ∧ a0 ≤ 1000000000
    · have KT := Lib.hid (number_text a0 hr)
      have hE := text_ne a0 hr
      obtain ⟨t, hT⟩ : ∃ t, t = textS a0 := ⟨_, rfl⟩
      rw [← hT] at K16 KT hE
      clear hT
      rcases hcase with ⟨rfl, KB⟩ | ⟨by_, rfl⟩
      · go_enter Tryd.func7, Tryd.ntmps7
        go_wp2_with fail
        refine (K16.out w HT.out).mono ?_
        rintro e w1 ⟨rfl, hb1⟩
        go_wp2_with fail
        refine (KT.out w1).mono ?_
        rintro e w2 ⟨rfl, hb2⟩
        have hb12 : Below w.heap.size w w2 := hb1.trans (hb2.mono hb1.size)
        go_wp2_with fail
        refine (K14.out w2).mono ?_
        rintro e w3 ⟨rfl, hb3⟩
        have hb13 : Below w.heap.size w w3 := hb12.trans (hb3.mono hb12.size)
        have HM3 := Lib.hid (HM.out.below hb13 (Nat.le_refl _))
        go_wp2_with fail
        refine (alive_any w3 HM3.out).mono ?_
        rintro e w4 ⟨rfl, hb4⟩
        have hb14 : Below w.heap.size w w4 := hb13.trans (hb4.mono hb13.size)
        go_wp2_with fail
        refine (KB.out w4 (HT.out.below hb14 (Nat.le_refl _))).mono ?_
        rintro e w5 ⟨rfl, hb5⟩
        go_wp2
        go_ret
        exact ⟨rfl, hb14.trans (hb5.mono hb14.size)⟩
      · go_enter Tryd.func7, Tryd.ntmps7
        go_wp2_with fail
        refine (K16.out w HT.out).mono ?_
        rintro e w1 ⟨rfl, hb1⟩
        go_wp2_with fail
        refine (KT.out w1).mono ?_
        rintro e w2 ⟨rfl, hb2⟩
        have hb12 : Below w.heap.size w w2 := hb1.trans (hb2.mono hb1.size)
        go_wp2_with fail
        refine (K14.out w2).mono ?_
        rintro e w3 ⟨rfl, hb3⟩
        have hb13 : Below w.heap.size w w3 := hb12.trans (hb3.mono hb12.size)
        have HM3 := Lib.hid (HM.out.below hb13 (Nat.le_refl _))
        go_wp2_with fail
        refine (alive_any w3 HM3.out).mono ?_
        rintro e w4 ⟨rfl, hb4⟩
        have hb14 : Below w.heap.size w w4 := hb13.trans (hb4.mono hb13.size)
        go_wp2
        go_ret
        exact ⟨rfl, hb14⟩
    · have hE := text_em a0 hr
      obtain ⟨t, hT⟩ : ∃ t, t = textS a0 := ⟨_, rfl⟩
      rw [← hT] at K16 hE
      clear hT
      have hc2 : a0 < 0 ∨ (0 ≤ a0 ∧ 1000000000 < a0) := by omega
      clear hr
      rcases hcase with ⟨rfl, KB⟩ | ⟨by_, rfl⟩
      · rcases hc2 with g1 | ⟨g1, g2⟩
        · go_enter Tryd.func7, Tryd.ntmps7
          go_wp2_with fail
          refine (K16.out w HT.out).mono ?_
          rintro e w1 ⟨rfl, hb1⟩
          obtain ⟨w2, hw2⟩ : ∃ w2, w2 = w1 := ⟨_, rfl⟩
          subst hw2
          have hb12 := hb1
          go_wp2_with fail
          refine (K14.out w2).mono ?_
          rintro e w3 ⟨rfl, hb3⟩
          have hb13 : Below w.heap.size w w3 := hb12.trans (hb3.mono hb12.size)
          have HM3 := Lib.hid (HM.out.below hb13 (Nat.le_refl _))
          go_wp2_with fail
          refine (alive_any w3 HM3.out).mono ?_
          rintro e w4 ⟨rfl, hb4⟩
          have hb14 : Below w.heap.size w w4 := hb13.trans (hb4.mono hb13.size)
          go_wp2_with fail
          refine (KB.out w4 (HT.out.below hb14 (Nat.le_refl _))).mono ?_
          rintro e w5 ⟨rfl, hb5⟩
          go_wp2
          go_ret
          exact ⟨rfl, hb14.trans (hb5.mono hb14.size)⟩
        · go_enter Tryd.func7, Tryd.ntmps7
          go_wp2_with fail
          refine (K16.out w HT.out).mono ?_
          rintro e w1 ⟨rfl, hb1⟩
          obtain ⟨w2, hw2⟩ : ∃ w2, w2 = w1 := ⟨_, rfl⟩
          subst hw2
          have hb12 := hb1
          go_wp2_with fail
          refine (K14.out w2).mono ?_
          rintro e w3 ⟨rfl, hb3⟩
          have hb13 : Below w.heap.size w w3 := hb12.trans (hb3.mono hb12.size)
          have HM3 := Lib.hid (HM.out.below hb13 (Nat.le_refl _))
          go_wp2_with fail
          refine (alive_any w3 HM3.out).mono ?_
          rintro e w4 ⟨rfl, hb4⟩
          have hb14 : Below w.heap.size w w4 := hb13.trans (hb4.mono hb13.size)
          go_wp2_with fail
          refine (KB.out w4 (HT.out.below hb14 (Nat.le_refl _))).mono ?_
          rintro e w5 ⟨rfl, hb5⟩
          go_wp2
          go_ret
          exact ⟨rfl, hb14.trans (hb5.mono hb14.size)⟩
      · rcases hc2 with g1 | ⟨g1, g2⟩
        · go_enter Tryd.func7, Tryd.ntmps7
          go_wp2_with fail
          refine (K16.out w HT.out).mono ?_
          rintro e w1 ⟨rfl, hb1⟩
          obtain ⟨w2, hw2⟩ : ∃ w2, w2 = w1 := ⟨_, rfl⟩
          subst hw2
          have hb12 := hb1
          go_wp2_with fail
          refine (K14.out w2).mono ?_
          rintro e w3 ⟨rfl, hb3⟩
          have hb13 : Below w.heap.size w w3 := hb12.trans (hb3.mono hb12.size)
          have HM3 := Lib.hid (HM.out.below hb13 (Nat.le_refl _))
          go_wp2_with fail
          refine (alive_any w3 HM3.out).mono ?_
          rintro e w4 ⟨rfl, hb4⟩
          have hb14 : Below w.heap.size w w4 := hb13.trans (hb4.mono hb13.size)
          go_wp2
          go_ret
          exact ⟨rfl, hb14⟩
        · go_enter Tryd.func7, Tryd.ntmps7
          go_wp2_with fail
          refine (K16.out w HT.out).mono ?_
          rintro e w1 ⟨rfl, hb1⟩
          obtain ⟨w2, hw2⟩ : ∃ w2, w2 = w1 := ⟨_, rfl⟩
          subst hw2
          have hb12 := hb1
          go_wp2_with fail
          refine (K14.out w2).mono ?_
          rintro e w3 ⟨rfl, hb3⟩
          have hb13 : Below w.heap.size w w3 := hb12.trans (hb3.mono hb12.size)
          have HM3 := Lib.hid (HM.out.below hb13 (Nat.le_refl _))
          go_wp2_with fail
          refine (alive_any w3 HM3.out).mono ?_
          rintro e w4 ⟨rfl, hb4⟩
          have hb14 : Below w.heap.size w w4 := hb13.trans (hb4.mono hb13.size)
          go_wp2
          go_ret
          exact ⟨rfl, hb14⟩
end Go.Proofs.YtclcnmmhmjbjjaaDoor
