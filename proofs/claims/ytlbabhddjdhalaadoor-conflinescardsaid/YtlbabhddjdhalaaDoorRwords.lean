/- The document's words: of a line; whether a byte is wrong. -/
import Derived.Test.YtlbabhddjdhalaaDoorRcut
namespace Go.Proofs.YtlbabhddjdhalaaDoor
open Go.RowKit Go.Proofs.Lx

/-- Where the word begins that is being read: -1, or its place. -/
def FromOK (l : Bs) (f : Int) (j : Nat) (cur : Bs) : Prop := (f = -1 ∧ cur = []) ∨ ∃ g : Nat, f = g ∧ g < j ∧ cur = (l.take j).drop g
theorem ne_cur (s : ByteArray) (g j : Nat) (h : g < j) (hj : j ≤ s.size) : (s.data.toList.take j).drop g ≠ [] := by
  intro e
  have := congrArg List.length e
  rw [List.length_drop, List.length_take, len_eq] at this
  simp at this; omega
theorem addW_ne (acc : List Bs) (cur : Bs) (h : cur ≠ []) : addW acc cur = acc ++ [cur] := if_neg h
theorem addW_nil (acc : List Bs) : addW acc [] = acc := if_pos rfl
theorem rwd_end (s : ByteArray) (acc : List Bs) (cur : Bs) (j : Nat) (h : ¬ j < s.size) : rwd acc cur (s.data.toList.drop j) = some (addW acc cur) := by rw [drop_end s j h]; rfl
theorem rwd_35 (s : ByteArray) (acc : List Bs) (cur : Bs) (j : Nat) (h : j < s.size) (h1 : (s[j].toNat : Int) = 35) : rwd acc cur (s.data.toList.drop j) = some (addW acc cur) := by
  have e : s[j] = 35 := by rw [← UInt8.toNat_inj]; simp; omega
  rw [drop_at s j h, rwd, if_pos e]
theorem ne35 (c : UInt8) (h : ¬ (c.toNat : Int) = 35) : c ≠ 35 := fun e => h (by rw [e]; rfl)
theorem rwd_bad (s : ByteArray) (acc : List Bs) (cur : Bs) (j : Nat) (h : j < s.size) (h1 : ¬ (s[j].toNat : Int) = 35) (h2 : ¬ ((s[j].toNat : Int) = 9 ∨ (32 ≤ (s[j].toNat : Int) ∧ (s[j].toNat : Int) ≤ 126))) : rwd acc cur (s.data.toList.drop j) = none := by
  rw [drop_at s j h, rwd, if_neg (ne35 _ h1), if_neg (by rw [okB_iff]; exact h2)]
theorem rwd_blank (s : ByteArray) (acc : List Bs) (cur : Bs) (j : Nat) (h : j < s.size) (h2 : (s[j].toNat : Int) = 32 ∨ (s[j].toNat : Int) = 9) : rwd acc cur (s.data.toList.drop j) = rwd (addW acc cur) [] (s.data.toList.drop (j + 1)) := by
  rw [drop_at s j h, rwd, if_neg (ne35 _ (by omega)), if_pos ((okB_iff _).2 (by omega)), if_pos ((blankB_iff _).2 h2)]
theorem rwd_letter (s : ByteArray) (acc : List Bs) (cur : Bs) (j : Nat) (h : j < s.size) (h1 : ¬ (s[j].toNat : Int) = 35) (h2 : 32 ≤ (s[j].toNat : Int) ∧ (s[j].toNat : Int) ≤ 126) (h3 : ¬ (s[j].toNat : Int) = 32) : rwd acc cur (s.data.toList.drop j) = rwd acc (cur ++ [s[j]]) (s.data.toList.drop (j + 1)) := by
  rw [drop_at s j h, rwd, if_neg (ne35 _ h1), if_pos ((okB_iff _).2 (by omega)), if_neg (by rw [blankB_iff]; omega)]

def RwPost (w : World) (r : Option (List Bs)) (e : Ending) (w' : World) : Prop :=
  ∃ v, Strs w' w.heap.size v (r.getD []) ∧ e = .returned (.tuple #[v, .bool r.isSome]) ∧ Below w.heap.size w w'
theorem rw_ok {w w' : World} {r : Option (List Bs)} {ws : List Bs} {v : Value} (hr : r = some ws) (hv : Strs w' w.heap.size v ws) (hb : Below w.heap.size w w') : RwPost w r (.returned (.tuple #[v, .bool true])) w' := by
  subst hr; exact ⟨v, hv, rfl, hb⟩
theorem rw_no {w w' : World} {r : Option (List Bs)} (hr : r = none) (hb : Below w.heap.size w w') : RwPost w r (.returned (.tuple #[.slice none 0 0, .bool false])) w' := by
  subst hr; exact ⟨_, Strs.nil _ _, rfl, hb⟩

set_option maxRecDepth 100000 in
set_option maxHeartbeats 8000000 in
theorem rwords_any (s : ByteArray) (w : World) (hs : s.size ≤ 100000) :
    Calls Tryd.prog 57 #[.string s] w fun e w' => RwPost w (rwd [] [] s.data.toList) e w' := by
  obtain ⟨i0, hi, hz0, hz1, hz2⟩ := info_parts Tryd.info9
  go_enter Tryd.func57, Tryd.ntmps57
  go_wp2
  go_loopw [4, 5, 6] (fun v f i wr => ∃ (j : Nat) (q : Int) (acc : List Bs) (cur : Bs), j ≤ s.size ∧ i = .int .i64 j ∧ f = .int .i64 q ∧ acc.length ≤ j ∧ Hid (FromOK s.data.toList q j cur) ∧ Hid (Strs wr w.heap.size v acc) ∧ Below w.heap.size w wr ∧ Hid (rwd [] [] s.data.toList = rwd acc cur (s.data.toList.drop j))) (fun _ _ i _ => s.size - (intOf i).toNat)
  case atStart => exact ⟨0, -1, [], [], Nat.zero_le _, rfl, rfl, Nat.le_refl _, .inl ⟨rfl, rfl⟩, Strs.nil _ _, Below.refl _ _, rfl⟩
  case round =>
    obtain ⟨j, q, acc, cur, hj, rfl, rfl, hal, HF, HS, hb, HC⟩ := hrel
    have hown := HS.out
    unfold Strs at hown
    have HO := Lib.hid hown
    clear hown
    have hbs := hb.size
    rcases HF.out with ⟨rfl, rfl⟩ | ⟨g, rfl, hg, rfl⟩
    · clear HF HO
      by_cases hp : j < s.size
      · have hne : ((j : Int) == (s.size : Int)) = false := by rw [beq_eq_false_iff_ne]; omega
        by_cases h35 : (s[j].toNat : Int) = 35
        · have HC2 := Lib.hid (HC.out.trans (rwd_35 s acc _ j hp h35))
          rw [addW_nil] at HC2
          clear HC
          have b35 : ((s[j].toNat : Int) == 35) = true := beqT h35
          go_wp2
          go_ret2
          exact rw_ok HC2.out HS.out hb
        · by_cases hok : (s[j].toNat : Int) = 9 ∨ (32 ≤ (s[j].toNat : Int) ∧ (s[j].toNat : Int) ≤ 126)
          · by_cases hbl : (s[j].toNat : Int) = 32 ∨ (s[j].toNat : Int) = 9
            · have HC2 := Lib.hid (HC.out.trans (rwd_blank s acc _ j hp hbl))
              rw [addW_nil] at HC2
              clear HC hok
              rcases hbl with h32 | h9
              · have h9 : ¬ (s[j].toNat : Int) = 9 := by omega
                have b35 : ((s[j].toNat : Int) == 35) = false := beqF h35
                have b9 : ((s[j].toNat : Int) == 9) = false := beqF h9
                have n9 : ((s[j].toNat : Int) != 9) = true := bneT h9
                have b32 : ((s[j].toNat : Int) == 32) = true := beqT h32
                go_wp2
                go_roundw
                case rel => exact ⟨j + 1, -1, acc, [], by omega, by go_num, rfl, by omega, .inl ⟨rfl, rfl⟩, HS, hb, HC2⟩
                case measure => simp [intOf]; omega
              · have h32 : ¬ (s[j].toNat : Int) = 32 := by omega
                have b35 : ((s[j].toNat : Int) == 35) = false := beqF h35
                have b9 : ((s[j].toNat : Int) == 9) = true := beqT h9
                have n9 : ((s[j].toNat : Int) != 9) = false := bneF h9
                have b32 : ((s[j].toNat : Int) == 32) = false := beqF h32
                go_wp2
                go_roundw
                case rel => exact ⟨j + 1, -1, acc, [], by omega, by go_num, rfl, by omega, .inl ⟨rfl, rfl⟩, HS, hb, HC2⟩
                case measure => simp [intOf]; omega
            · have h9 : ¬ (s[j].toNat : Int) = 9 := by omega
              have h32 : ¬ (s[j].toNat : Int) = 32 := by omega
              have h1 : 32 ≤ (s[j].toNat : Int) := by omega
              have h2 : (s[j].toNat : Int) ≤ 126 := by omega
              have HC2 := Lib.hid (HC.out.trans (rwd_letter s acc _ j hp h35 ⟨h1, h2⟩ h32))
              clear HC hok hbl
              have b35 : ((s[j].toNat : Int) == 35) = false := beqF h35
              have b9 : ((s[j].toNat : Int) == 9) = false := beqF h9
              have n9 : ((s[j].toNat : Int) != 9) = true := bneT h9
              have b32 : ((s[j].toNat : Int) == 32) = false := beqF h32
              go_wp2
              go_roundw
              case rel => exact ⟨j + 1, j, acc, [] ++ [s[j]], by omega, by go_num, rfl, by omega, .inr ⟨j, rfl, by omega, by rw [cur_snoc s j j (Nat.le_refl _) hp, cur_new]⟩, HS, hb, HC2⟩
              case measure => simp [intOf]; omega
          · have HC2 := Lib.hid (HC.out.trans (rwd_bad s acc _ j hp h35 hok))
            clear HC
            have h9 : ¬ (s[j].toNat : Int) = 9 := by omega
            by_cases h32 : (s[j].toNat : Int) < 32
            · clear hok
              have b35 : ((s[j].toNat : Int) == 35) = false := beqF h35
              have b9 : ((s[j].toNat : Int) == 9) = false := beqF h9
              have n9 : ((s[j].toNat : Int) != 9) = true := bneT h9
              go_wp2
              go_ret2
              exact rw_no HC2.out hb
            · have h126 : (126 : Int) < (s[j].toNat : Int) := by omega
              clear hok
              have b35 : ((s[j].toNat : Int) == 35) = false := beqF h35
              have b9 : ((s[j].toNat : Int) == 9) = false := beqF h9
              have n9 : ((s[j].toNat : Int) != 9) = true := bneT h9
              go_wp2
              go_ret2
              exact rw_no HC2.out hb
      · obtain rfl : j = s.size := by omega
        have HC2 := Lib.hid (HC.out.trans (rwd_end s acc _ s.size hp))
        rw [addW_nil] at HC2
        clear HC
        go_wp2
        go_ret2
        exact rw_ok HC2.out HS.out hb
    · clear HF
      have hcn := ne_cur s g j hg hj
      have HN := Lib.hid hcn
      clear hcn
      by_cases hp : j < s.size
      · have hne : ((j : Int) == (s.size : Int)) = false := by rw [beq_eq_false_iff_ne]; omega
        by_cases h35 : (s[j].toNat : Int) = 35
        · have HC2 := Lib.hid (HC.out.trans (rwd_35 s acc _ j hp h35))
          rw [addW_ne _ _ HN.out] at HC2
          clear HC
          have b35 : ((s[j].toNat : Int) == 35) = true := beqT h35
          go_wp2_with (at_builtin; refine wpList_append_own _ rfl (.tmp 59) (.tmp 64) 39 rfl w.heap.size 9 i0 (.string ByteArray.empty) 1 16 Tryd.underlying39 hi hz0 hz1 hz2 rfl (by decide) _ _ _ rfl (HO.out.alloc _) ⟨wr.heap.size, 0, none⟩ 1 1 [.string (s.extract g j)] rfl rfl (cell_one_new _ _ _) (one_str _) (by unfold maxLen; omega) (by omega) (by simp; omega) ?_; intro v' w1 hown' hgrow _)
          obtain ⟨hs1, hb1⟩ := app_after hb hbs HO.out hown' hgrow
          rw [ext_list] at hs1
          go_ret2
          exact rw_ok HC2.out hs1 hb1
        · by_cases hok : (s[j].toNat : Int) = 9 ∨ (32 ≤ (s[j].toNat : Int) ∧ (s[j].toNat : Int) ≤ 126)
          · by_cases hbl : (s[j].toNat : Int) = 32 ∨ (s[j].toNat : Int) = 9
            · have HC2 := Lib.hid (HC.out.trans (rwd_blank s acc _ j hp hbl))
              rw [addW_ne _ _ HN.out] at HC2
              clear HC hok
              rcases hbl with h32 | h9
              · have h9 : ¬ (s[j].toNat : Int) = 9 := by omega
                have b35 : ((s[j].toNat : Int) == 35) = false := beqF h35
                have b9 : ((s[j].toNat : Int) == 9) = false := beqF h9
                have n9 : ((s[j].toNat : Int) != 9) = true := bneT h9
                have b32 : ((s[j].toNat : Int) == 32) = true := beqT h32
                go_wp2_with (at_builtin; refine wpList_append_own _ rfl (.tmp 59) (.tmp 64) 39 rfl w.heap.size 9 i0 (.string ByteArray.empty) 1 16 Tryd.underlying39 hi hz0 hz1 hz2 rfl (by decide) _ _ _ rfl (HO.out.alloc _) ⟨wr.heap.size, 0, none⟩ 1 1 [.string (s.extract g j)] rfl rfl (cell_one_new _ _ _) (one_str _) (by unfold maxLen; omega) (by omega) (by simp; omega) ?_; intro v' w1 hown' hgrow _)
                obtain ⟨hs1, hb1⟩ := app_after hb hbs HO.out hown' hgrow
                rw [ext_list] at hs1
                go_roundw
                case rel => exact ⟨j + 1, -1, acc ++ [(s.data.toList.take j).drop g], [], by omega, by go_num, rfl, by simp; omega, .inl ⟨rfl, rfl⟩, hs1, hb1, HC2⟩
                case measure => simp [intOf]; omega
              · have h32 : ¬ (s[j].toNat : Int) = 32 := by omega
                have b35 : ((s[j].toNat : Int) == 35) = false := beqF h35
                have b9 : ((s[j].toNat : Int) == 9) = true := beqT h9
                have n9 : ((s[j].toNat : Int) != 9) = false := bneF h9
                have b32 : ((s[j].toNat : Int) == 32) = false := beqF h32
                go_wp2_with (at_builtin; refine wpList_append_own _ rfl (.tmp 59) (.tmp 64) 39 rfl w.heap.size 9 i0 (.string ByteArray.empty) 1 16 Tryd.underlying39 hi hz0 hz1 hz2 rfl (by decide) _ _ _ rfl (HO.out.alloc _) ⟨wr.heap.size, 0, none⟩ 1 1 [.string (s.extract g j)] rfl rfl (cell_one_new _ _ _) (one_str _) (by unfold maxLen; omega) (by omega) (by simp; omega) ?_; intro v' w1 hown' hgrow _)
                obtain ⟨hs1, hb1⟩ := app_after hb hbs HO.out hown' hgrow
                rw [ext_list] at hs1
                go_roundw
                case rel => exact ⟨j + 1, -1, acc ++ [(s.data.toList.take j).drop g], [], by omega, by go_num, rfl, by simp; omega, .inl ⟨rfl, rfl⟩, hs1, hb1, HC2⟩
                case measure => simp [intOf]; omega
            · have h9 : ¬ (s[j].toNat : Int) = 9 := by omega
              have h32 : ¬ (s[j].toNat : Int) = 32 := by omega
              have h1 : 32 ≤ (s[j].toNat : Int) := by omega
              have h2 : (s[j].toNat : Int) ≤ 126 := by omega
              have HC2 := Lib.hid (HC.out.trans (rwd_letter s acc _ j hp h35 ⟨h1, h2⟩ h32))
              clear HC hok hbl
              have b35 : ((s[j].toNat : Int) == 35) = false := beqF h35
              have b9 : ((s[j].toNat : Int) == 9) = false := beqF h9
              have n9 : ((s[j].toNat : Int) != 9) = true := bneT h9
              have b32 : ((s[j].toNat : Int) == 32) = false := beqF h32
              go_wp2
              go_roundw
              case rel => exact ⟨j + 1, g, acc, (s.data.toList.take j).drop g ++ [s[j]], by omega, by go_num, rfl, by omega, .inr ⟨g, rfl, by omega, by rw [cur_snoc s g j (by omega) hp]⟩, HS, hb, HC2⟩
              case measure => simp [intOf]; omega
          · have HC2 := Lib.hid (HC.out.trans (rwd_bad s acc _ j hp h35 hok))
            clear HC
            have h9 : ¬ (s[j].toNat : Int) = 9 := by omega
            by_cases h32 : (s[j].toNat : Int) < 32
            · clear hok
              have b35 : ((s[j].toNat : Int) == 35) = false := beqF h35
              have b9 : ((s[j].toNat : Int) == 9) = false := beqF h9
              have n9 : ((s[j].toNat : Int) != 9) = true := bneT h9
              go_wp2
              go_ret2
              exact rw_no HC2.out hb
            · have h126 : (126 : Int) < (s[j].toNat : Int) := by omega
              clear hok
              have b35 : ((s[j].toNat : Int) == 35) = false := beqF h35
              have b9 : ((s[j].toNat : Int) == 9) = false := beqF h9
              have n9 : ((s[j].toNat : Int) != 9) = true := bneT h9
              go_wp2
              go_ret2
              exact rw_no HC2.out hb
      · obtain rfl : j = s.size := by omega
        have HC2 := Lib.hid (HC.out.trans (rwd_end s acc _ s.size hp))
        rw [addW_ne _ _ HN.out] at HC2
        clear HC
        go_wp2_with (at_builtin; refine wpList_append_own _ rfl (.tmp 59) (.tmp 64) 39 rfl w.heap.size 9 i0 (.string ByteArray.empty) 1 16 Tryd.underlying39 hi hz0 hz1 hz2 rfl (by decide) _ _ _ rfl (HO.out.alloc _) ⟨wr.heap.size, 0, none⟩ 1 1 [.string (s.extract g s.size)] rfl rfl (cell_one_new _ _ _) (one_str _) (by unfold maxLen; omega) (by omega) (by simp; omega) ?_; intro v' w1 hown' hgrow _)
        obtain ⟨hs1, hb1⟩ := app_after hb hbs HO.out hown' hgrow
        rw [ext_list] at hs1
        go_ret2
        exact rw_ok HC2.out hs1 hb1
end Go.Proofs.YtlbabhddjdhalaaDoor
