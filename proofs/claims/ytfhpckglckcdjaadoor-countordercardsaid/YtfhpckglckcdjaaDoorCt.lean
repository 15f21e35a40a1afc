/- Counts in plain lists: thirteen numbers, one more of one, their text. Nothing of the program here. -/
import Derived.Test.YtfhpckglckcdjaaDoorLx
import Derived.Lib.Join
import Derived.Lib.ItoaLen
import Derived.Lib.ItoaMem
namespace Go.Proofs.Lx
open Go

def nameL : List Bs := [[116, 97, 107, 101, 110], [115, 104, 111, 114, 116], [117, 110, 107, 110, 111, 119, 110], [114, 101, 116, 105, 114, 101, 100], [105, 100, 108, 101], [118, 101, 114, 115, 105, 111, 110], [109, 111, 100, 101], [111, 114, 105, 103, 105, 110], [107, 105, 115, 115], [108, 101, 97, 112], [115, 116, 114, 97, 116, 117, 109], [122, 101, 114, 111], [115, 108, 111, 119]]
def nameAt (i : Nat) : Bs := nameL.getD i []
theorem nameAt_len (i : Nat) : (nameAt i).length ≤ 7 := by
  match i with
  | 0 => decide
  | 1 => decide
  | 2 => decide
  | 3 => decide
  | 4 => decide
  | 5 => decide
  | 6 => decide
  | 7 => decide
  | 8 => decide
  | 9 => decide
  | 10 => decide
  | 11 => decide
  | 12 => decide
  | i + 13 => simp [nameAt, nameL, List.getD]
/-- A reason's name and its number. -/
def prt (i n : Nat) : Bs := nameAt i ++ [32] ++ Lib.decDigits n
theorem part_ne (i n : Nat) : prt i n ≠ [] := by unfold prt; simp
theorem part_len (i n : Nat) (h : n ≤ 1000000000000) : (prt i n).length ≤ 28 := by
  have h1 := nameAt_len i
  have h2 := Lib.nDigits_le20 n (by omega)
  unfold prt
  simp [Lib.decDigits_length]; omega
def partsF (i : Nat) : List Nat → List Bs
  | [] => []
  | n :: l => (if n = 0 then [] else [prt i n]) ++ partsF (i + 1) l
theorem partsF_app : ∀ (a b : List Nat) (i : Nat), partsF i (a ++ b) = partsF i a ++ partsF (i + a.length) b
  | [], b, i => rfl
  | n :: a, b, i => by
    rw [List.cons_append, partsF, partsF, partsF_app a b (i + 1), List.append_assoc, List.length_cons]
    congr 3; omega
theorem partsF_len : ∀ (a : List Nat) (i : Nat), (partsF i a).length ≤ a.length
  | [], i => Nat.le_refl _
  | n :: a, i => by
    have := partsF_len a (i + 1)
    rw [partsF, List.length_append, List.length_cons]
    split <;> simp <;> omega
theorem partsF_ne : ∀ (a : List Nat) (i : Nat), ∀ p ∈ partsF i a, p ≠ []
  | [], i, p, h => by simp [partsF] at h
  | n :: a, i, p, h => by
    rw [partsF, List.mem_append] at h
    rcases h with h | h
    · split at h
      · simp at h
      · simp at h; subst h; exact part_ne _ _
    · exact partsF_ne a _ p h
theorem partsF_sz : ∀ (a : List Nat) (i : Nat), (∀ n ∈ a, n ≤ 1000000000000) → ∀ p ∈ partsF i a, p.length ≤ 28
  | [], i, _, p, h => by simp [partsF] at h
  | n :: a, i, hn, p, h => by
    rw [partsF, List.mem_append] at h
    rcases h with h | h
    · split at h
      · simp at h
      · simp at h; subst h; exact part_len _ _ (hn n (by simp))
    · exact partsF_sz a _ (fun m hm => hn m (by simp [hm])) p h
def SEP : Bs := [44, 32]
/-- The text of some numbers. -/
def textN (N : List Nat) : Bs := Lib.join (partsF 0 N) SEP
theorem lens_le (K : Nat) : ∀ (l : List Bs), (∀ p ∈ l, p.length ≤ K) → Lib.lens l ≤ l.length * K
  | [], _ => by simp [Lib.lens]
  | p :: l, h => by
    have h1 := lens_le K l (fun q hq => h q (by simp [hq]))
    have h2 := h p (by simp)
    have h3 : Lib.lens (p :: l) = p.length + Lib.lens l := by simp [Lib.lens]
    rw [h3, List.length_cons, Nat.succ_mul]; omega
theorem join_sz (l : List Bs) (hl : l.length ≤ 13) (h : ∀ p ∈ l, p.length ≤ 28) : (Lib.join l SEP).length ≤ 400 := by
  cases l with
  | nil => simp [Lib.join_nil]
  | cons p r =>
    rw [Lib.join_length]
    have := lens_le 28 _ h
    simp [SEP] at this hl ⊢; omega
theorem joinTail_cons (sep : Bs) (p : Bs) (l : List Bs) : Lib.joinTail sep (p :: l) = sep ++ p ++ Lib.joinTail sep l := by simp [Lib.joinTail]
theorem joinTail_app (sep : Bs) (a b : List Bs) : Lib.joinTail sep (a ++ b) = Lib.joinTail sep a ++ Lib.joinTail sep b := by simp [Lib.joinTail]
theorem join_tail (sep : Bs) (l : List Bs) (h : l ≠ []) : sep ++ Lib.join l sep = Lib.joinTail sep l := by
  cases l with
  | nil => exact absurd rfl h
  | cons p r => rw [Lib.join_cons, joinTail_cons, List.append_assoc]
theorem join_nil_iff (sep : Bs) (l : List Bs) (h : ∀ p ∈ l, p ≠ []) : Lib.join l sep = [] ↔ l = [] := by
  cases l with
  | nil => simp [Lib.join_nil]
  | cons p r =>
    rw [Lib.join_cons]
    have := h p (by simp)
    simp [this]
/-- One more prt behind. -/
theorem join_snoc (l : List Bs) (p : Bs) (sep : Bs) : Lib.join (l ++ [p]) sep = if l = [] then p else Lib.join l sep ++ sep ++ p := by
  cases l with
  | nil => rw [if_pos rfl, List.nil_append, Lib.join_one]
  | cons q r =>
    rw [if_neg (by simp), List.cons_append, Lib.join_cons, Lib.join_cons, joinTail_app, joinTail_cons]
    simp [Lib.joinTail]
/-- A text's first parts: of the numbers ahead of one. -/
def textT (N : List Nat) (i : Nat) : Bs := Lib.join (partsF 0 (N.take i)) SEP
theorem take_snoc (N : List Nat) (i : Nat) (h : i < N.length) : N.take (i + 1) = N.take i ++ [N.getD i 0] := by
  rw [List.take_add_one, List.getElem?_eq_getElem h, List.getD_eq_getElem?_getD, List.getElem?_eq_getElem h]; rfl
theorem parts_snoc (N : List Nat) (i : Nat) (h : i < N.length) : partsF 0 (N.take (i + 1)) = partsF 0 (N.take i) ++ (if N.getD i 0 = 0 then [] else [prt i (N.getD i 0)]) := by
  rw [take_snoc N i h, partsF_app, List.length_take, Nat.min_eq_left (by omega), Nat.zero_add]
  congr 1
  rw [partsF, partsF, List.append_nil]
theorem textT_zero (N : List Nat) : textT N 0 = [] := rfl
theorem textT_same (N : List Nat) (i : Nat) (h : i < N.length) (h0 : N.getD i 0 = 0) : textT N (i + 1) = textT N i := by
  unfold textT; rw [parts_snoc N i h, if_pos h0, List.append_nil]
theorem textT_nil (N : List Nat) (i : Nat) : textT N i = [] ↔ partsF 0 (N.take i) = [] := join_nil_iff _ _ (partsF_ne _ _)
theorem textT_first (N : List Nat) (i : Nat) (h : i < N.length) (h0 : N.getD i 0 ≠ 0) (ht : textT N i = []) : textT N (i + 1) = prt i (N.getD i 0) := by
  rw [textT_nil] at ht
  unfold textT; rw [parts_snoc N i h, if_neg h0, ht, List.nil_append, Lib.join_one]
theorem textT_more (N : List Nat) (i : Nat) (h : i < N.length) (h0 : N.getD i 0 ≠ 0) (ht : textT N i ≠ []) : textT N (i + 1) = textT N i ++ SEP ++ prt i (N.getD i 0) := by
  rw [ne_eq, textT_nil] at ht
  unfold textT; rw [parts_snoc N i h, if_neg h0, join_snoc, if_neg ht]
theorem textT_all (N : List Nat) (h : N.length = 13) : textT N 13 = textN N := by unfold textT textN; rw [List.take_of_length_le (by omega)]
theorem textT_sz (N : List Nat) (i : Nat) (h : N.length = 13) (hn : ∀ n ∈ N, n ≤ 1000000000000) : (textT N i).length ≤ 400 := by
  refine join_sz _ (Nat.le_trans (partsF_len _ _) (by simp; omega)) (partsF_sz _ _ fun n hm => hn n (List.mem_of_mem_take hm))

/-- Thirteen numbers that fit. -/
structure Fit (N : List Nat) : Prop where
  len : N.length = 13
  sum : N.sum ≤ 1000000000000
theorem mem_sum : ∀ (l : List Nat) (n : Nat), n ∈ l → n ≤ l.sum
  | [], n, h => by simp at h
  | m :: l, n, h => by
    rw [List.sum_cons]
    rcases List.mem_cons.1 h with rfl | h
    · omega
    · have := mem_sum l n h; omega
theorem Fit.all {N : List Nat} (h : Fit N) : ∀ n ∈ N, n ≤ 1000000000000 := fun n hn => Nat.le_trans (mem_sum N n hn) h.sum
theorem Fit.at {N : List Nat} (h : Fit N) (i : Nat) : N.getD i 0 ≤ 1000000000000 := by
  rw [List.getD_eq_getElem?_getD]
  cases e : N[i]? with
  | none => simp
  | some n => exact h.all n (List.mem_of_getElem? e)
theorem Fit.size {N : List Nat} (h : Fit N) (i : Nat) : (textT N i).length ≤ 400 := textT_sz N i h.len h.all
def zeros : List Nat := [0, 0, 0, 0, 0, 0, 0, 0, 0, 0, 0, 0, 0]
theorem fit_zeros : Fit zeros := ⟨rfl, by decide⟩
/-- One more of one. -/
def bump (N : List Nat) (k : Nat) : List Nat := N.set k (N.getD k 0 + 1)
theorem bump_len (N : List Nat) (k : Nat) : (bump N k).length = N.length := by unfold bump; simp
theorem sum_set : ∀ (N : List Nat) (k x : Nat), k < N.length → (N.set k x).sum + N.getD k 0 = N.sum + x
  | [], k, x, h => by simp at h
  | n :: N, 0, x, h => by simp; omega
  | n :: N, k + 1, x, h => by
    have := sum_set N k x (by simpa using h)
    simp at this ⊢; omega
theorem bump_sum (N : List Nat) (k : Nat) (h : k < N.length) : (bump N k).sum = N.sum + 1 := by
  have := sum_set N k (N.getD k 0 + 1) h
  unfold bump; omega
theorem bump_at (N : List Nat) (k i : Nat) (h : k < N.length) : (bump N k).getD i 0 = if i = k then N.getD k 0 + 1 else N.getD i 0 := by
  unfold bump
  rw [List.getD_eq_getElem?_getD, List.getD_eq_getElem?_getD, List.getD_eq_getElem?_getD, List.getElem?_set]
  by_cases e : k = i
  · subst e; simp [h]
  · rw [if_neg e, if_neg (fun h => e h.symm)]
theorem Fit.bump {N : List Nat} (h : Fit N) {k : Nat} (hk : k < 13) (hs : N.sum < 1000000000000) : Fit (bump N k) := ⟨by rw [bump_len]; exact h.len, by rw [bump_sum N k (by rw [h.len]; exact hk)]; omega⟩

/-! ### two texts that differ -/
def valF (l : Bs) : Nat := l.foldl (fun a c => a * 10 + (c.toNat - 48)) 0
theorem dig_byte (d : Nat) (h : d < 10) : (UInt8.ofNat (48 + d)).toNat = 48 + d := by
  rw [UInt8.toNat_ofNat']; omega
theorem val_dec (n : Nat) : valF (Lib.decDigits n) = n := by
  induction n using Nat.strongRecOn with
  | _ n ih =>
    by_cases h : n < 10
    · rw [Lib.decDigits_one h]
      show 0 * 10 + ((UInt8.ofNat (48 + n)).toNat - 48) = n
      rw [dig_byte n h]; omega
    · have e : Lib.decDigits n = Lib.decDigits (n / 10) ++ [UInt8.ofNat (48 + n % 10)] := by rw [Lib.decDigits, dif_neg h]
      have := ih (n / 10) (by omega)
      unfold valF at this ⊢
      rw [e, List.foldl_append, this]
      show n / 10 * 10 + ((UInt8.ofNat (48 + n % 10)).toNat - 48) = n
      rw [dig_byte _ (by omega)]; omega
theorem dec_inj {n m : Nat} (h : Lib.decDigits n = Lib.decDigits m) : n = m := by rw [← val_dec n, h, val_dec]
theorem part_inj {i n m : Nat} (h : prt i n = prt i m) : n = m := by
  unfold prt at h
  exact dec_inj (List.append_cancel_left h)
theorem split_at (N : List Nat) (k : Nat) (h : k < N.length) : N = N.take k ++ N.getD k 0 :: N.drop (k + 1) := by
  have := List.take_append_drop k N
  rw [List.drop_eq_getElem_cons h] at this
  rw [List.getD_eq_getElem?_getD, List.getElem?_eq_getElem h]
  exact this.symm
theorem bump_split (N : List Nat) (k : Nat) (h : k < N.length) : bump N k = N.take k ++ (N.getD k 0 + 1) :: N.drop (k + 1) := by
  unfold bump
  rw [List.set_eq_take_append_cons_drop, if_pos h]
theorem text_bump_ne (N : List Nat) (k : Nat) (h : k < N.length) : textN N ≠ textN (bump N k) := by
  intro e
  have e1 : partsF 0 N = partsF 0 (N.take k) ++ ((if N.getD k 0 = 0 then [] else [prt k (N.getD k 0)]) ++ partsF (k + 1) (N.drop (k + 1))) := by
    conv => lhs; rw [split_at N k h]
    rw [partsF_app, partsF, List.length_take, Nat.min_eq_left (by omega), Nat.zero_add]
  have e2 : partsF 0 (bump N k) = partsF 0 (N.take k) ++ ([prt k (N.getD k 0 + 1)] ++ partsF (k + 1) (N.drop (k + 1))) := by
    rw [bump_split N k h, partsF_app, partsF, List.length_take, Nat.min_eq_left (by omega), Nat.zero_add, if_neg (by omega)]
  have hne : partsF 0 (bump N k) ≠ [] := by rw [e2]; simp
  unfold textN at e
  have hne1 : partsF 0 N ≠ [] := by
    intro h0
    rw [h0, Lib.join_nil] at e
    exact hne ((join_nil_iff SEP _ (partsF_ne _ _)).1 e.symm)
  have hj : Lib.joinTail SEP (partsF 0 N) = Lib.joinTail SEP (partsF 0 (bump N k)) := by
    rw [← join_tail SEP _ hne1, ← join_tail SEP _ hne, e]
  rw [e1, e2, joinTail_app, joinTail_app, joinTail_app, joinTail_app] at hj
  have hj := List.append_cancel_right (List.append_cancel_left hj)
  by_cases h0 : N.getD k 0 = 0
  · rw [if_pos h0] at hj
    have := congrArg List.length hj
    simp [Lib.joinTail, SEP] at this
  · rw [if_neg h0] at hj
    simp only [Lib.joinTail, List.map_cons, List.map_nil, List.flatten_cons, List.flatten_nil, List.append_nil] at hj
    have := part_inj (List.append_cancel_left hj)
    omega

/-! ### counts of a list -/
/-- How often there is each. -/
def cnt (l : List Nat) : List Nat := (List.range 13).map fun k => l.count k
theorem cnt_len (l : List Nat) : (cnt l).length = 13 := by simp [cnt]
theorem cnt_nil : cnt [] = zeros := by decide
theorem cnt_at (l : List Nat) (k : Nat) (h : k < 13) : (cnt l).getD k 0 = l.count k := by
  simp [cnt, List.getD_eq_getElem?_getD, h]
theorem cnt_snoc (l : List Nat) (z : Nat) (hz : z < 13) : cnt (l ++ [z]) = bump (cnt l) z := by
  apply List.ext_getElem (by rw [cnt_len, bump_len, cnt_len])
  intro i h1 h2
  rw [cnt_len] at h1
  have a := cnt_at (l ++ [z]) i h1
  have b := bump_at (cnt l) z i (by rw [cnt_len]; exact hz)
  rw [List.getD_eq_getElem?_getD, List.getElem?_eq_getElem (by rw [cnt_len]; exact h1)] at a
  rw [List.getD_eq_getElem?_getD, List.getElem?_eq_getElem h2] at b
  simp only [Option.getD_some] at a b
  rw [a, b, cnt_at l z hz, cnt_at l i h1, List.count_append]
  by_cases e : i = z
  · subst e; simp
  · rw [if_neg e]; simp [List.count_singleton]; omega
theorem cnt_perm {l m : List Nat} (h : l.Perm m) : cnt l = cnt m := by
  unfold cnt
  exact List.map_congr_left fun k _ => h.count_eq k
theorem cnt_sum_rev : ∀ (l : List Nat), (∀ z ∈ l, z < 13) → (cnt l.reverse).sum = l.length
  | [], _ => rfl
  | z :: l, h => by
    rw [List.reverse_cons, cnt_snoc _ z (h z (by simp)), bump_sum _ _ (by rw [cnt_len]; exact h z (by simp)), cnt_sum_rev l (fun y hy => h y (by simp [hy]))]
    rfl
theorem cnt_sum (l : List Nat) (h : ∀ z ∈ l, z < 13) : (cnt l).sum = l.length := by
  rw [← cnt_sum_rev l h, cnt_perm (List.reverse_perm l).symm]
theorem cnt_fit (l : List Nat) (h : ∀ z ∈ l, z < 13) (hl : l.length ≤ 1000000000000) : Fit (cnt l) := ⟨cnt_len l, by rw [cnt_sum l h]; exact hl⟩
end Go.Proofs.Lx
