/- The document's Cut: the texts between a byte. -/
import Derived.Test.YtlbabhddjdhalaaDoorRnum
namespace Go.Proofs.YtlbabhddjdhalaaDoor
open Go.RowKit Go.Proofs.Lx

theorem Tryd.info9 : (Tryd.prog.info? 9).map (fun i => (i.zero, i.size, i.bytes)) = some (some (.string ByteArray.empty), 1, 16) := by kernel_rfl
theorem beqF {a b : Int} (h : ¬ a = b) : (a == b) = false := by rw [beq_eq_false_iff_ne]; exact h
theorem beqT {a b : Int} (h : a = b) : (a == b) = true := by rw [beq_iff_eq]; exact h
theorem bneT {a b : Int} (h : ¬ a = b) : (a != b) = true := by rw [bne_iff_ne]; exact h
theorem bneF {a b : Int} (h : a = b) : (a != b) = false := by rw [h]; simp
theorem cur_snoc (s : ByteArray) (g j : Nat) (hg : g ≤ j) (h : j < s.size) : (s.data.toList.take (j + 1)).drop g = (s.data.toList.take j).drop g ++ [s[j]] := by
  rw [take_snoc s j h, List.drop_append_of_le_length (by rw [List.length_take, len_eq]; omega)]
theorem cur_new (l : Bs) (j : Nat) : (l.take j).drop j = [] := List.drop_eq_nil_of_le (List.length_take_le _ _)
theorem cut_hit (s : ByteArray) (acc : List Bs) (cur : Bs) (j : Nat) (h : j < s.size) (h1 : (s[j].toNat : Int) = 10) : cutF 10 acc cur (s.data.toList.drop j) = cutF 10 (acc ++ [cur]) [] (s.data.toList.drop (j + 1)) := by
  have e : s[j] = 10 := by rw [← UInt8.toNat_inj]; simp; omega
  rw [drop_at s j h, cutF, if_pos e]
theorem cut_miss (s : ByteArray) (acc : List Bs) (cur : Bs) (j : Nat) (h : j < s.size) (h1 : ¬ (s[j].toNat : Int) = 10) : cutF 10 acc cur (s.data.toList.drop j) = cutF 10 acc (cur ++ [s[j]]) (s.data.toList.drop (j + 1)) := by
  have e : s[j] ≠ 10 := fun e => h1 (by rw [e]; rfl)
  rw [drop_at s j h, cutF, if_neg e]
/-- A row of strings with one more. -/
theorem strs_snoc {w : World} {base : Nat} {v : Value} {acc : List Bs} {s : ByteArray} (h : w.ownsRow base 9 1 v (acc.length + 1) (acc.map Str ++ [.string s])) : Strs w base v (acc ++ [s.data.toList]) := by
  unfold Strs
  rw [List.length_append, List.map_append]
  exact h
theorem one_str (s : ByteArray) : ∀ u ∈ [Value.string s], u.oneCell' = true := fun u hu => by simp at hu; subst hu; rfl

/-- Behind an append of one string. -/
theorem app_after {w wr w1 : World} {B : Nat} {v v' : Value} {acc : List Bs} {s : ByteArray} {o : Obj} (hb : Below B w wr) (hB : B ≤ wr.heap.size) (h : wr.ownsRow B 9 1 v acc.length (acc.map Str))
    (h' : w1.ownsRow B 9 1 v' (acc.length + 1) (acc.map Str ++ [.string s])) (hg : (wr.alloc o).grownBy w1 v.ownBlock) : Strs w1 B v' (acc ++ [s.data.toList]) ∧ Below B w w1 :=
  ⟨strs_snoc h', Below.grown (hb.alloc hB _) hg (by simp; omega) (fun k hk => (h.lt k hk).1)⟩

set_option maxRecDepth 100000 in
set_option maxHeartbeats 2000000 in
theorem rcut_any (s : ByteArray) (w : World) (hs : s.size ≤ 100000) :
    Calls Tryd.prog 56 #[.string s, .int .u8 10] w fun e w' => ∃ v, e = .returned v ∧ Strs w' w.heap.size v (linesOf s.data.toList) ∧ Below w.heap.size w w' := by
  obtain ⟨i0, hi, hz0, hz1, hz2⟩ := info_parts Tryd.info9
  go_enter Tryd.func56, Tryd.ntmps56
  go_wp2
  go_loopw [5, 6, 7] (fun v f i wr => ∃ (j g : Nat) (acc : List Bs), j ≤ s.size ∧ g ≤ j ∧ i = .int .i64 j ∧ f = .int .i64 g ∧ acc.length ≤ j ∧ Hid (Strs wr w.heap.size v acc) ∧ Below w.heap.size w wr ∧ Hid (linesOf s.data.toList = cutF 10 acc ((s.data.toList.take j).drop g) (s.data.toList.drop j))) (fun _ _ i _ => s.size - (intOf i).toNat)
  case atStart => exact ⟨0, 0, [], Nat.zero_le _, Nat.le_refl _, rfl, rfl, Nat.le_refl _, Strs.nil _ _, Below.refl _ _, rfl⟩
  case round =>
    obtain ⟨j, g, acc, hj, hg, rfl, rfl, hal, HS, hb, HC⟩ := hrel
    have hown := HS.out
    unfold Strs at hown
    have HO := Lib.hid hown
    clear hown
    have hbs := hb.size
    by_cases hp : j < s.size
    · by_cases hc : (s[j].toNat : Int) = 10
      · have HC2 := Lib.hid (HC.out.trans (cut_hit s _ _ j hp hc))
        clear HC
        go_wp2_with (at_builtin; refine wpList_append_own _ rfl (.tmp 19) (.tmp 24) 39 rfl w.heap.size 9 i0 (.string ByteArray.empty) 1 16 Tryd.underlying39 hi hz0 hz1 hz2 rfl (by decide) _ _ _ rfl (HO.out.alloc _) ⟨wr.heap.size, 0, none⟩ 1 1 [.string (s.extract g j)] rfl rfl (cell_one_new _ _ _) (one_str _) (by unfold maxLen; omega) (by omega) (by simp; omega) ?_; intro v' w1 hown' hgrow _)
        obtain ⟨hs1, hb1⟩ := app_after hb hbs HO.out hown' hgrow
        rw [ext_list] at hs1
        go_roundw
        case rel => exact ⟨j + 1, j + 1, acc ++ [(s.data.toList.take j).drop g], by omega, Nat.le_refl _, by go_num, by go_num, by simp; omega, hs1, hb1, by rw [cur_new]; exact HC2.out⟩
        case measure => simp [intOf]; omega
      · have HC2 := Lib.hid (HC.out.trans (cut_miss s _ _ j hp hc))
        clear HC
        go_wp2
        go_roundw
        case rel => exact ⟨j + 1, g, acc, by omega, by omega, by go_num, rfl, by omega, HS, hb, by rw [cur_snoc s g j hg hp]; exact HC2.out⟩
        case measure => simp [intOf]; omega
    · obtain rfl : j = s.size := by omega
      have HC2 : Hid (linesOf s.data.toList = acc ++ [(s.data.toList.take s.size).drop g]) := by
        have := HC.out
        rw [drop_end s s.size (by omega)] at this
        exact this
      clear HC
      go_wp2_with (at_builtin; refine wpList_append_own _ rfl (.tmp 28) (.tmp 32) 39 rfl w.heap.size 9 i0 (.string ByteArray.empty) 1 16 Tryd.underlying39 hi hz0 hz1 hz2 rfl (by decide) _ _ _ rfl (HO.out.alloc _) ⟨wr.heap.size, 0, none⟩ 1 1 [.string (s.extract g s.size)] rfl rfl (cell_one_new _ _ _) (one_str _) (by unfold maxLen; omega) (by omega) (by simp; omega) ?_; intro v' w1 hown' hgrow _)
      obtain ⟨hs1, hb1⟩ := app_after hb hbs HO.out hown' hgrow
      rw [ext_list] at hs1
      go_ret
      exact ⟨v', rfl, by rw [HC2.out]; exact hs1, hb1⟩
end Go.Proofs.YtlbabhddjdhalaaDoor
