/- The document's Number. -/
import Derived.Test.YtlbabhddjdhalaaDoorNum
namespace Go.Proofs.YtlbabhddjdhalaaDoor
open Go.RowKit Go.Proofs.Lx

theorem len_eq (s : ByteArray) : s.data.toList.length = s.size := by rw [Array.length_toList]; rfl
theorem take_snoc (s : ByteArray) (k : Nat) (h : k < s.size) : s.data.toList.take (k + 1) = s.data.toList.take k ++ [s[k]] := by
  rw [List.take_succ_eq_append_getElem (by simpa using h)]; rfl
theorem decs_snoc (s : ByteArray) (k : Nat) (h : k < s.size) (hd : decsB (s.data.toList.take k) = true) (h1 : 48 ≤ (s[k].toNat : Int)) (h2 : (s[k].toNat : Int) ≤ 57) : decsB (s.data.toList.take (k + 1)) = true := by
  rw [take_snoc s k h]
  simp only [decsB, List.all_append, List.all_cons, List.all_nil, Bool.and_true, Bool.and_eq_true]
  exact ⟨hd, (decB_iff _).2 ⟨h1, h2⟩⟩
theorem decs_not (s : ByteArray) (k : Nat) (h : k < s.size) (hc : ¬ (48 ≤ (s[k].toNat : Int) ∧ (s[k].toNat : Int) ≤ 57)) : number s.data.toList = (0, 6) := by
  refine number_bad _ ?_
  cases hd : decsB s.data.toList with
  | false => rfl
  | true => exact absurd (decs_at s hd k h) hc
theorem refF_step (s : ByteArray) (k n : Nat) (h : k < s.size) (hn : n ≤ 1000000000) : refF n (s.data.toList.drop k) = refF (n * 10 + (s[k].toNat - 48)) (s.data.toList.drop (k + 1)) := by
  rw [drop_at s k h, refF, if_pos hn]
theorem refF_skip (s : ByteArray) (k n : Nat) (h : k < s.size) (hn : ¬ n ≤ 1000000000) : refF n (s.data.toList.drop k) = refF n (s.data.toList.drop (k + 1)) := by
  rw [drop_at s k h, refF, if_neg hn]
theorem size_pos (s : ByteArray) (h : s.data.toList ≠ []) : 0 < s.size := by
  rcases Nat.eq_zero_or_pos s.size with e | e
  · exact absurd (List.eq_nil_of_length_eq_zero (by simpa using e)) h
  · exact e
theorem decs_full (s : ByteArray) (k : Nat) (h : ¬ k < s.size) (hd : decsB (s.data.toList.take k) = true) (h0 : 0 < s.size) : (decsB s.data.toList && !s.data.toList.isEmpty) = true := by
  rw [List.take_of_length_le (by simpa using Nat.le_of_not_lt h)] at hd
  have h2 : s.data.toList.isEmpty = false := by
    rw [List.isEmpty_eq_false_iff]
    intro e
    have : s.data.toList.length = 0 := by rw [e]; rfl
    rw [len_eq] at this; omega
  rw [hd, h2]; rfl
theorem ne_one (s : ByteArray) (h : (1 : Int) < (s.size : Int)) : s.data.toList ≠ [48] := fun e => by
  have : s.data.toList.length = 1 := by rw [e]; rfl
  rw [len_eq] at this; omega
theorem one_of (s : ByteArray) (h0 : 0 < s.size) (h : (s[0].toNat : Int) = 48) (h1 : ¬ (1 : Int) < (s.size : Int)) : s.data.toList = [48] := by
  have := drop_at s 0 h0
  rw [List.drop_zero, drop_end s 1 (by omega)] at this
  rw [this]
  have e : s[0] = 48 := by rw [← UInt8.toNat_inj]; simp; omega
  rw [e]

set_option maxRecDepth 100000 in
set_option maxHeartbeats 2000000 in
theorem rnumber_any (s : ByteArray) (w : World) (hs : s.size ≤ 1000000) :
    Calls Tryd.prog 69 #[.string s] w fun e w' => e = .returned (.tuple #[.int .i64 (number s.data.toList).1, .int .i64 (number s.data.toList).2]) ∧ w = w' := by
  by_cases hne : s.data.toList = []
  · have hE : s.toList.isEmpty = true := by rw [ByteArray.toList_eq, hne]; rfl
    go_enter Tryd.func69, Tryd.ntmps69
    go_wp2
    go_ret2
    exact ⟨by rw [hne]; rfl, rfl⟩
  · have hE : s.toList.isEmpty = false := by rw [ByteArray.toList_eq]; simpa using hne
    have h0 := size_pos s hne
    clear hne
    go_enter Tryd.func69, Tryd.ntmps69
    go_wp2
    go_loop [4, 5] (fun n i => ∃ j k : Nat, j ≤ s.size ∧ i = .int .i64 j ∧ n = .int .i64 k ∧ k ≤ 10000000009 ∧ Hid (decsB (s.data.toList.take j) = true) ∧ Hid (refF 0 s.data.toList = refF k (s.data.toList.drop j))) (fun _ i => s.size - (intOf i).toNat)
    case atStart => exact ⟨0, 0, Nat.zero_le _, rfl, rfl, by omega, rfl, rfl⟩
    case round =>
      obtain ⟨j, k, hj, rfl, rfl, hk, HD, HR⟩ := hrel
      by_cases hp : j < s.size
      · by_cases hc : 48 ≤ (s[j].toNat : Int) ∧ (s[j].toNat : Int) ≤ 57
        · obtain ⟨h1, h2⟩ := hc
          have HD2 := Lib.hid (decs_snoc s j hp HD.out h1 h2)
          by_cases hn : (k : Int) ≤ 1000000000
          · have HR2 := Lib.hid (HR.out.trans (refF_step s j k hp (by omega)))
            clear HD HR
            go_wp2
            go_round
            case rel => exact ⟨j + 1, k * 10 + (s[j].toNat - 48), by omega, by go_num, by go_num, by omega, HD2, HR2⟩
            case measure => simp [intOf]; omega
          · have HR2 := Lib.hid (HR.out.trans (refF_skip s j k hp (by omega)))
            clear HD HR
            go_wp2
            go_round
            case rel => exact ⟨j + 1, k, by omega, by go_num, rfl, by omega, HD2, HR2⟩
            case measure => simp [intOf]; omega
        · have HN := Lib.hid (decs_not s j hp hc)
          clear HD HR
          by_cases h1 : (s[j].toNat : Int) < 48
          · clear hc
            go_wp2
            go_ret2
            exact ⟨by rw [HN.out]; rfl, rfl⟩
          · have h2 : (57 : Int) < (s[j].toNat : Int) := by omega
            clear hc
            go_wp2
            go_ret2
            exact ⟨by rw [HN.out]; rfl, rfl⟩
      · have hr := HR.out
        rw [drop_end s j hp] at hr
        have HR2 : Hid (refF 0 s.data.toList = k) := hr
        have HF := Lib.hid (decs_full s j hp HD.out h0)
        clear HR HD hr
        by_cases hz : (s[0].toNat : Int) = 48
        · by_cases h1 : (1 : Int) < (s.size : Int)
          · have HN : Hid (number s.data.toList = (0, 6)) := number_zero _ HF.out (by rw [head_at s h0, ← UInt8.toNat_inj]; simp; omega) (ne_one s h1)
            go_wp2
            go_ret2
            exact ⟨by rw [HN.out]; rfl, rfl⟩
          · have e1 := one_of s h0 hz h1
            have HN : Hid (number s.data.toList = (0, 0)) := by rw [e1]; exact (by decide : number [48] = (0, 0))
            have hk0 : (k : Int) = 0 := by
              have := HR2.out
              rw [e1] at this
              have e : refF 0 [48] = 0 := by decide
              omega
            clear e1
            go_wp2
            go_ret2
            exact ⟨by rw [HN.out]; exact ret2 (by omega) rfl, rfl⟩
        · have HN : Hid (number s.data.toList = match numF 0 s.data.toList with | none => (0, 3) | some n => (n, 0)) := number_form _ HF.out (fun h => hz (by have := h.1; rw [head_at s h0, ← UInt8.toNat_inj] at this; simp at this; omega))
          by_cases hk2 : (1000000000 : Int) < (k : Int)
          · have HN2 : Hid (number s.data.toList = (0, 3)) := by
              have := HN.out
              rw [numF_ref _ 0 (by omega), HR2.out, if_neg (by omega)] at this
              exact this
            clear HN
            go_wp2
            go_ret2
            exact ⟨by rw [HN2.out]; rfl, rfl⟩
          · have HN2 : Hid (number s.data.toList = (k, 0)) := by
              have := HN.out
              rw [numF_ref _ 0 (by omega), HR2.out, if_pos (by omega)] at this
              exact this
            clear HN
            go_wp2
            go_ret2
            exact ⟨by rw [HN2.out]; rfl, rfl⟩
end Go.Proofs.YtlbabhddjdhalaaDoor
