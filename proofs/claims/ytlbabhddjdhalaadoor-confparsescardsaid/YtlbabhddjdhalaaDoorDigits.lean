/- Digits there and back. -/
import Derived.Test.YtlbabhddjdhalaaDoorText
import Derived.Test.YtlbabhddjdhalaaDoorSizes
import Derived.Test.YtlbabhddjdhalaaDoorRlines
namespace Go.Proofs.Lx
open Go Go.Proofs.YtlbabhddjdhalaaDoor

theorem dig_byte (d : Nat) (h : d < 10) : (UInt8.ofNat (48 + d)).toNat = 48 + d := by
  rw [UInt8.toNat_ofNat']; omega
theorem dec_decs (n : Nat) : decsB (Lib.decDigits n) = true := by
  induction n using Nat.strongRecOn with
  | _ n ih =>
    by_cases h : n < 10
    · rw [Lib.decDigits_one h]
      simp only [decsB, List.all_cons, List.all_nil, Bool.and_true]
      rw [decB_iff, dig_byte n h]; omega
    · rw [Lib.decDigits, dif_neg h]
      have := ih (n / 10) (by omega)
      unfold decsB at this ⊢
      rw [List.all_append, this]
      simp only [List.all_cons, List.all_nil, Bool.and_true, Bool.true_and]
      rw [decB_iff, dig_byte _ (by omega)]; omega
theorem dec_ne (n : Nat) : Lib.decDigits n ≠ [] := by
  rw [Lib.decDigits]
  split <;> simp
theorem numF_app : ∀ (l : Bs) (m : Nat) (c : UInt8), numF m (l ++ [c]) = match numF m l with | none => none | some k => numF k [c]
  | [], m, c => rfl
  | b :: l, m, c => by
    rw [List.cons_append, numF, numF]
    split
    · rfl
    · exact numF_app l _ c
theorem numF_dec (n : Nat) (h : n ≤ 1000000000) : numF 0 (Lib.decDigits n) = some n := by
  induction n using Nat.strongRecOn with
  | _ n ih =>
    by_cases h1 : n < 10
    · rw [Lib.decDigits_one h1, numF, dig_byte n h1, if_neg (by omega), numF]
      congr 1; omega
    · rw [Lib.decDigits, dif_neg h1, numF_app, ih (n / 10) (by omega) (by omega)]
      simp only
      rw [numF, dig_byte _ (by omega), if_neg (by omega), numF]
      congr 1; omega
theorem dec_head (n : Nat) (h : 0 < n) : (Lib.decDigits n).headD 0 ≠ 48 := by
  induction n using Nat.strongRecOn with
  | _ n ih =>
    by_cases h1 : n < 10
    · rw [Lib.decDigits_one h1]
      intro e
      have := congrArg UInt8.toNat e
      rw [List.headD_cons, dig_byte n h1] at this
      simp at this; omega
    · rw [Lib.decDigits, dif_neg h1]
      have := ih (n / 10) (by omega) (by omega)
      cases hd : Lib.decDigits (n / 10) with
      | nil => exact absurd hd (dec_ne _)
      | cons a t => rw [hd] at this; simpa using this
/-- A number's text is read as it. -/
theorem number_dec (n : Nat) (h : n ≤ 1000000000) : number (Lib.decDigits n) = (n, 0) := by
  have hd : (decsB (Lib.decDigits n) && !(Lib.decDigits n).isEmpty) = true := by
    rw [dec_decs]; simpa using dec_ne n
  by_cases h0 : n = 0
  · subst h0
    rw [Lib.decDigits_one (by omega)]; rfl
  · rw [number_form _ hd (fun e => dec_head n (by omega) e.1), numF_dec n h]
/-- A word that is read as a number has that text. -/
theorem numF_back : ∀ (l : Bs) (m k : Nat), decsB l = true → 0 < m → numF m l = some k → Lib.decDigits k = Lib.decDigits m ++ l
  | [], m, k, _, _, h => by simp [numF] at h; subst h; simp
  | c :: l, m, k, hd, hm, h => by
    have hc : decB c = true := by simp [decsB] at hd; exact hd.1
    have hl : decsB l = true := by simp [decsB] at hd ⊢; exact hd.2
    have hb := (decB_iff c).1 hc
    rw [numF] at h
    split at h
    · cases h
    · rw [numF_back l _ k hl (by omega) h, Lib.decDigits, dif_neg (by omega)]
      have e1 : (m * 10 + (c.toNat - 48)) / 10 = m := by omega
      have e2 : (m * 10 + (c.toNat - 48)) % 10 = c.toNat - 48 := by omega
      rw [e1, e2]
      have e3 : UInt8.ofNat (48 + (c.toNat - 48)) = c := by
        rw [show 48 + (c.toNat - 48) = c.toNat by omega]; simp
      rw [e3]; simp
theorem number_back (l : Bs) (k : Nat) (h : number l = (k, 0)) : k ≤ 1000000000 ∧ Lib.decDigits k = l := by
  unfold number at h
  split at h
  · rename_i hd
    split at h
    · simp at h
    · rename_i hz
      have hall : decsB l = true := by simp only [Bool.and_eq_true] at hd; exact hd.1
      cases l with
      | nil => simp at hd
      | cons c t =>
        have hc : decB c = true := by simp [decsB] at hall; exact hall.1
        have ht : decsB t = true := by simp [decsB] at hall ⊢; exact hall.2
        have hb := (decB_iff c).1 hc
        rw [numF_ref _ 0 (by omega)] at h
        split at h
        · simp at h
        · rename_i n hn
          split at hn
          · rename_i hle
            simp at hn h
            obtain rfl : n = k := h
            refine ⟨by omega, ?_⟩
            have hF : numF 0 (c :: t) = some n := by rw [numF_ref _ 0 (by omega), if_pos hle, hn]
            by_cases h48 : c = 48
            · subst h48
              have : t = [] := by
                by_cases e : t = []
                · exact e
                · exact absurd ⟨rfl, by simpa using e⟩ hz
              subst this
              have : refF 0 [48] = 0 := by decide
              rw [this] at hn
              rw [← hn, Lib.decDigits_one (by omega)]; rfl
            · have hc48 : c.toNat ≠ 48 := fun e => h48 (by rw [← UInt8.toNat_inj]; exact e)
              rw [numF] at hF
              split at hF
              · cases hF
              · have := numF_back t _ n ht (by omega) hF
                rw [this, Nat.zero_mul, Nat.zero_add, Lib.decDigits_one (by omega), show 48 + (c.toNat - 48) = c.toNat by omega]
                simp
          · simp at hn
  · simp at h
theorem number_le (l : Bs) : (number l).1 ≤ 1000000000 := by
  by_cases h : (number l).2 = 0
  · exact (number_back l (number l).1 (by rw [← h])).1
  · unfold number at h ⊢
    split
    · split
      · simp
      · rename_i h1 h2
        rw [if_pos h1, if_neg h2] at h
        cases hn : numF 0 l with
        | none => simp
        | some n => rw [hn] at h; simp at h
    · simp
theorem number_zero_of (l : Bs) (h : (number l).2 ≠ 0) : (number l).1 = 0 := by
  unfold number at h ⊢
  split
  · split
    · rfl
    · rename_i h1 h2
      rw [if_pos h1, if_neg h2] at h
      cases hn : numF 0 l with
      | none => rfl
      | some n => rw [hn] at h; simp at h
  · rfl
end Go.Proofs.Lx
