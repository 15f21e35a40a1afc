/- Number, the program's and the document's: what a word of decimals says. -/
import Derived.Test.YtlbabhddjdhalaaDoorPlain
namespace Go.Proofs.YtlbabhddjdhalaaDoor
open Go.RowKit Go.Proofs.Lx

def numF (n : Nat) : Bs → Option Nat
  | [] => some n
  | c :: l => if 1000000000 < n * 10 + (c.toNat - 48) then none else numF (n * 10 + (c.toNat - 48)) l
def number (l : Bs) : Nat × Nat :=
  if (decsB l && !l.isEmpty) = true then
    (if l.headD 0 = 48 ∧ l ≠ [48] then (0, 6) else match numF 0 l with | none => (0, 3) | some n => (n, 0))
  else (0, 6)
def refF (n : Nat) : Bs → Nat
  | [] => n
  | c :: l => if n ≤ 1000000000 then refF (n * 10 + (c.toNat - 48)) l else refF n l
theorem refF_big : ∀ (l : Bs) (n : Nat), 1000000000 < n → refF n l = n
  | [], n, _ => rfl
  | c :: l, n, h => by rw [refF, if_neg (by omega)]; exact refF_big l n h
theorem numF_ref : ∀ (l : Bs) (n : Nat), n ≤ 1000000000 → numF n l = if refF n l ≤ 1000000000 then some (refF n l) else none
  | [], n, h => by simp [numF, refF, h]
  | c :: l, n, h => by
    rw [numF, refF, if_pos h]
    split
    · rename_i hb; rw [refF_big l _ hb, if_neg (by omega)]
    · exact numF_ref l _ (by omega)
theorem refF_le : ∀ (l : Bs) (n : Nat), decsB l = true → n ≤ 10000000009 → refF n l ≤ 10000000009
  | [], n, _, h => h
  | c :: l, n, hd, h => by
    have hc : decB c = true := by simp [decsB] at hd; exact hd.1
    have hl : decsB l = true := by simp [decsB] at hd ⊢; exact hd.2
    have := (decB_iff c).1 hc
    rw [refF]
    split
    · exact refF_le l _ hl (by omega)
    · exact refF_le l _ hl h
theorem numF_over (k : Nat) (c : UInt8) (l : Bs) (h1 : 48 ≤ (c.toNat : Int)) (h2 : (c.toNat : Int) ≤ 57) (h : (1000000000 - ((c.toNat : Int) - 48)) / 10 < (k : Int)) : numF k (c :: l) = none := by
  rw [numF, if_pos (by omega)]
theorem numF_next (k : Nat) (c : UInt8) (l : Bs) (h1 : 48 ≤ (c.toNat : Int)) (h2 : (c.toNat : Int) ≤ 57) (h : (k : Int) ≤ (1000000000 - ((c.toNat : Int) - 48)) / 10) : numF k (c :: l) = numF (k * 10 + (c.toNat - 48)) l := by
  rw [numF, if_neg (by omega)]
theorem numF_bd (k : Nat) (c : UInt8) (h1 : 48 ≤ (c.toNat : Int)) (h2 : (c.toNat : Int) ≤ 57) (h : (k : Int) ≤ (1000000000 - ((c.toNat : Int) - 48)) / 10) : k * 10 + (c.toNat - 48) ≤ 1000000000 := by omega
theorem ret2 {a b c d : Int} (h : a = c) (k : b = d) : Ending.returned (.tuple #[.int .i64 a, .int .i64 b]) = .returned (.tuple #[.int .i64 c, .int .i64 d]) := by rw [h, k]
theorem number_bad (l : Bs) (h : (decsB l && !l.isEmpty) = false) : number l = (0, 6) := by unfold number; rw [h]; rfl
theorem number_zero (l : Bs) (h : (decsB l && !l.isEmpty) = true) (h0 : l.headD 0 = 48) (h1 : l ≠ [48]) : number l = (0, 6) := by unfold number; rw [if_pos h, if_pos ⟨h0, h1⟩]
theorem number_form (l : Bs) (h : (decsB l && !l.isEmpty) = true) (h1 : ¬ (l.headD 0 = 48 ∧ l ≠ [48])) : number l = match numF 0 l with | none => (0, 3) | some n => (n, 0) := by unfold number; rw [if_pos h, if_neg h1]
theorem decs_at (s : ByteArray) (h : decsB s.data.toList = true) (i : Nat) (hi : i < s.size) : 48 ≤ ((s[i]'hi).toNat : Int) ∧ ((s[i]'hi).toNat : Int) ≤ 57 := by
  refine (decB_iff _).1 ?_
  unfold decsB at h
  rw [List.all_eq_true] at h
  exact h _ (by show s.data[i] ∈ s.data.toList; exact Array.mem_def.1 (Array.getElem_mem _))
theorem head_at (s : ByteArray) (h : 0 < s.size) : s.data.toList.headD 0 = s[0] := by
  have := drop_at s 0 h
  rw [List.drop_zero] at this
  rw [this]; rfl

set_option maxRecDepth 100000 in
set_option maxHeartbeats 2000000 in
theorem number_loop (s : ByteArray) (w : World) (hD : (decsB s.data.toList && !s.data.toList.isEmpty) = true) (hz : ¬ (s.data.toList.headD 0 = 48 ∧ s.data.toList ≠ [48])) :
    Calls Tryd.prog 67 #[.string s] w fun e w' => e = .returned (.tuple #[.int .i64 (number s.data.toList).1, .int .i64 (number s.data.toList).2]) ∧ Below w.heap.size w w' := by
  have HN : Hid (number s.data.toList = match numF 0 s.data.toList with | none => (0, 3) | some n => (n, 0)) := number_form _ hD hz
  have hall : decsB s.data.toList = true := by simp only [Bool.and_eq_true] at hD; exact hD.1
  have hne : 0 < s.size := by
    simp only [Bool.and_eq_true, Bool.not_eq_true', List.isEmpty_eq_false_iff] at hD
    rcases Nat.eq_zero_or_pos s.size with h | h
    · exact absurd (List.eq_nil_of_length_eq_zero (by simpa using h)) hD.2
    · exact h
  have hz2 : s[0].toNat = 48 → s.data.toList = [48] := by
    intro h
    by_cases e : s.data.toList = [48]
    · exact e
    · exact absurd ⟨by rw [head_at s hne, ← UInt8.toNat_inj]; exact h, e⟩ hz
  have K := Lib.hid (decs_at s hall)
  have HZ := Lib.hid hz2
  clear hz hz2 hall
  have hC : Hid (∀ w, Calls Tryd.prog 78 #[.string s] w fun e w' => e = .returned (.bool true) ∧ Below w.heap.size w w') := fun w => by
    have := decimals_any s w
    rw [hD] at this
    exact this
  clear hD
  have hcase : ¬ (s[0].toNat : Int) = 48 ∨ ((s[0].toNat : Int) = 48 ∧ (s.toList == [48]) = true) := by
    by_cases h : s[0].toNat = 48
    · exact .inr ⟨by omega, by rw [ByteArray.toList_eq, HZ.out h]; rfl⟩
    · exact .inl (by omega)
  clear HZ
  rcases hcase with h0 | ⟨h0, hl⟩
  all_goals
    go_enter Tryd.func67, Tryd.ntmps67
    go_wp2_with (go_at_call 78; refine (hC.out _).mono ?_; rintro e w1 ⟨rfl, hb1⟩)
    go_loopw [4] (fun n wr => ∃ pos k : Nat, pos ≤ s.size ∧ wr = w1.iter s pos ∧ n = .int .i64 k ∧ k ≤ 1000000000 ∧ Hid (numF 0 s.data.toList = numF k (s.data.toList.drop pos))) (fun _ wr => s.size - wr.iterPos w1.heap.size)
    case atStart => exact ⟨0, 0, Nat.zero_le _, rfl, rfl, by omega, rfl⟩
    case round =>
      obtain ⟨pos, k, hpos, rfl, rfl, hk, HP⟩ := hrel
      have hb : ∀ q, Below w.heap.size w (w1.iter s q) := fun q => hb1.alloc hb1.size _
      by_cases hp : pos < s.size
      · obtain ⟨h1, h2⟩ := K.out pos hp
        have hst := HP.out
        rw [drop_at s pos hp] at hst
        have HST := Lib.hid hst
        have hnx : ∀ ty, (Instr.next (.pointer (some ⟨w1.heap.size, 0, none⟩)) true ty).run Tryd.prog (w1.iter s pos) = _ := fun ty => run_next_ascii w1 s pos ty hp (by omega)
        clear hst HP K hC
        go_wp2
        · have ht : (1000000000 - ((s[pos].toNat : Int) - 48)) / 10 < (k : Int) := by assumption
          go_ret2
          refine ⟨?_, hb _⟩
          have e := HST.out.trans (numF_over k _ _ h1 h2 ht)
          have e2 := HN.out
          rw [e] at e2
          rw [e2]; rfl
        · have ht : (k : Int) ≤ (1000000000 - ((s[pos].toNat : Int) - 48)) / 10 := by assumption
          have e := HST.out.trans (numF_next k _ _ h1 h2 ht)
          have hbd := numF_bd k _ h1 h2 ht
          go_roundw
          case rel => exact ⟨pos + 1, k * 10 + (s[pos].toNat - 48), by omega, rfl, by go_num, hbd, e⟩
          case measure => simp; omega
      · have hnx : ∀ ty, (Instr.next (.pointer (some ⟨w1.heap.size, 0, none⟩)) true ty).run Tryd.prog (w1.iter s pos) = _ := fun ty => run_next_end w1 s pos ty hp
        clear K hC
        go_wp2
        go_ret2
        refine ⟨?_, hb _⟩
        have e := HP.out
        rw [drop_end s pos hp] at e
        have e2 := HN.out
        rw [e] at e2
        rw [e2]; rfl
set_option maxRecDepth 100000 in
set_option maxHeartbeats 2000000 in
theorem number_any (s : ByteArray) (w : World) :
    Calls Tryd.prog 67 #[.string s] w fun e w' => e = .returned (.tuple #[.int .i64 (number s.data.toList).1, .int .i64 (number s.data.toList).2]) ∧ Below w.heap.size w w' := by
  by_cases hD : (decsB s.data.toList && !s.data.toList.isEmpty) = true
  · by_cases hz : s.data.toList.headD 0 = 48 ∧ s.data.toList ≠ [48]
    · have HN : Hid (number s.data.toList = (0, 6)) := number_zero _ hD hz.1 hz.2
      have hne : 0 < s.size := by
        simp only [Bool.and_eq_true, Bool.not_eq_true', List.isEmpty_eq_false_iff] at hD
        rcases Nat.eq_zero_or_pos s.size with h | h
        · exact absurd (List.eq_nil_of_length_eq_zero (by simpa using h)) hD.2
        · exact h
      have h0 : (s[0].toNat : Int) = 48 := by
        have := hz.1
        rw [head_at s hne, ← UInt8.toNat_inj] at this
        simp at this; omega
      have hl : (s.toList == [48]) = false := by rw [ByteArray.toList_eq, beq_eq_false_iff_ne]; exact hz.2
      have hC : Hid (∀ w, Calls Tryd.prog 78 #[.string s] w fun e w' => e = .returned (.bool true) ∧ Below w.heap.size w w') := fun w => by
        have := decimals_any s w
        rw [hD] at this
        exact this
      clear hD hz
      go_enter Tryd.func67, Tryd.ntmps67
      go_wp2_with (go_at_call 78; refine (hC.out _).mono ?_; rintro e w1 ⟨rfl, hb1⟩)
      go_ret2
      refine ⟨?_, hb1⟩
      rw [HN.out]; rfl
    · exact number_loop s w hD hz
  · have HN : Hid (number s.data.toList = (0, 6)) := number_bad _ (by simpa using hD)
    have hC : Hid (∀ w, Calls Tryd.prog 78 #[.string s] w fun e w' => e = .returned (.bool false) ∧ Below w.heap.size w w') := fun w => by
      have := decimals_any s w
      rw [show (decsB s.data.toList && !s.data.toList.isEmpty) = false by simpa using hD] at this
      exact this
    clear hD
    go_enter Tryd.func67, Tryd.ntmps67
    go_wp2_with (go_at_call 78; refine (hC.out _).mono ?_; rintro e w1 ⟨rfl, hb1⟩)
    go_ret2
    refine ⟨?_, hb1⟩
    rw [HN.out]; rfl
end Go.Proofs.YtlbabhddjdhalaaDoor
