/- What lex is about, in plain lists of bytes: lines, words, what is told. Nothing of the program here. -/
namespace Go.Proofs.Lx

abbrev Bs := List UInt8

def okB (c : UInt8) : Bool := c == 9 || (32 ≤ c && c ≤ 126)
def blankB (c : UInt8) : Bool := c == 32 || c == 9
def plainB (l : Bs) : Bool := l.all okB
def addW (acc : List Bs) (cur : Bs) : List Bs := if cur = [] then acc else acc ++ [cur]
def wrd (acc : List Bs) (cur : Bs) : Bs → List Bs
  | [] => addW acc cur
  | c :: l => if blankB c then wrd (addW acc cur) [] l else wrd acc (cur ++ [c]) l
def wordsOf (l : Bs) : List Bs := wrd [] [] l
def cutF (x : UInt8) (acc : List Bs) (cur : Bs) : Bs → List Bs
  | [] => acc ++ [cur]
  | c :: l => if c = x then cutF x (acc ++ [cur]) [] l else cutF x acc (cur ++ [c]) l
def linesOf (t : Bs) : List Bs := cutF 10 [] [] t
def said (l : Bs) : Bs := l.takeWhile (· != 35)
abbrev Ln := Nat × List Bs
inductive Res
  | wrong (k : Nat)
  | good (L : List Ln)
def addL (acc : List Ln) (i : Nat) (ws : List Bs) : List Ln := if ws = [] then acc else acc ++ [(i + 1, ws)]
def linesFrom (i : Nat) (acc : List Ln) : List Bs → Res
  | [] => .good acc
  | p :: ps => if plainB (said p) then linesFrom (i + 1) (addL acc i (wordsOf (said p))) ps else .wrong (i + 1)
def res (t : Bs) : Res := linesFrom 0 [] (linesOf t)
def Res.out : Res → List Ln × Nat × Nat
  | .wrong k => ([], k, 6)
  | .good L => (L, 0, 0)
def outOf (t : Bs) : List Ln × Nat × Nat := if 65536 < t.length then ([], 0, 7) else (res t).out

/-! ### the reference's words: the same, # and wrong bytes met on the way -/
def rwd (acc : List Bs) (cur : Bs) : Bs → Option (List Bs)
  | [] => some (addW acc cur)
  | c :: l => if c = 35 then some (addW acc cur) else if okB c then (if blankB c then rwd (addW acc cur) [] l else rwd acc (cur ++ [c]) l) else none
theorem rwd_eq : ∀ (l : Bs) (acc : List Bs) (cur : Bs), rwd acc cur l = if plainB (said l) then some (wrd acc cur (said l)) else none
  | [], acc, cur => by simp [rwd, said, plainB, wrd]
  | c :: l, acc, cur => by
    by_cases h : c = 35
    · subst h; simp [rwd, said, plainB, wrd]
    · have hs : said (c :: l) = c :: said l := by simp [said, h]
      rw [hs, rwd, if_neg h]
      by_cases ho : okB c = true
      · rw [if_pos ho]
        have hp : plainB (c :: said l) = plainB (said l) := by simp [plainB, ho]
        rw [hp, wrd]
        by_cases hb : blankB c = true
        · rw [if_pos hb, if_pos hb, rwd_eq l]
        · rw [if_neg hb, if_neg hb, rwd_eq l]
      · rw [if_neg ho, if_neg (by simp [plainB, ho])]
theorem rwd_words (l : Bs) : rwd [] [] l = if plainB (said l) then some (wordsOf (said l)) else none := rwd_eq l [] []

theorem addW_len (acc : List Bs) (cur : Bs) : (addW acc cur).length ≤ acc.length + 1 := by unfold addW; split <;> simp
theorem wrd_len : ∀ (l : Bs) (acc : List Bs) (cur : Bs), acc.length ≤ (wrd acc cur l).length
  | [], acc, cur => by unfold wrd addW; split <;> simp
  | c :: l, acc, cur => by
    unfold wrd
    split
    · exact Nat.le_trans (by unfold addW; split <;> simp) (wrd_len l _ _)
    · exact wrd_len l _ _
theorem cutF_acc (x : UInt8) : ∀ (l : Bs) (acc : List Bs) (cur : Bs), cutF x acc cur l = acc ++ cutF x [] cur l
  | [], acc, cur => by simp [cutF]
  | c :: l, acc, cur => by
    unfold cutF
    split
    · rw [cutF_acc x l (acc ++ [cur]), cutF_acc x l ([] ++ [cur])]; simp
    · exact cutF_acc x l acc _
theorem cutF_none (x : UInt8) : ∀ (l : Bs) (acc : List Bs) (cur : Bs), x ∉ l → cutF x acc cur l = acc ++ [cur ++ l]
  | [], acc, cur, _ => by simp [cutF]
  | c :: l, acc, cur, h => by
    have h1 : c ≠ x := fun e => h (by simp [e])
    have h2 : x ∉ l := fun e => h (by simp [e])
    rw [cutF, if_neg h1, cutF_none x l acc _ h2]; simp
theorem cutF_hit (x : UInt8) : ∀ (a b : Bs) (acc : List Bs) (cur : Bs), x ∉ a → cutF x acc cur (a ++ x :: b) = cutF x (acc ++ [cur ++ a]) [] b
  | [], b, acc, cur, _ => by simp [cutF]
  | c :: a, b, acc, cur, h => by
    have h1 : c ≠ x := fun e => h (by simp [e])
    have h2 : x ∉ a := fun e => h (by simp [e])
    rw [List.cons_append, cutF, if_neg h1, cutF_hit x a b acc _ h2]; simp
theorem cutF_join (x : UInt8) : ∀ (a b : Bs) (acc : List Bs) (cur : Bs), cutF x acc cur (a ++ x :: b) = cutF x acc cur a ++ cutF x [] [] b
  | [], b, acc, cur => by
    simp only [List.nil_append, cutF, ↓reduceIte]
    exact cutF_acc x b _ _
  | c :: a, b, acc, cur => by
    rw [List.cons_append, cutF, cutF]
    split
    · exact cutF_join x a b _ _
    · exact cutF_join x a b _ _
theorem cutF_ne (x : UInt8) : ∀ (l : Bs) (cur : Bs), ∃ h t, cutF x [] cur l = (cur ++ h) :: t
  | [], cur => ⟨[], [], by simp [cutF]⟩
  | c :: l, cur => by
    unfold cutF
    split
    · exact ⟨[], cutF x [] [] l, by rw [cutF_acc]; simp⟩
    · obtain ⟨h, t, e⟩ := cutF_ne x l (cur ++ [c])
      exact ⟨c :: h, t, by rw [e]; simp⟩
/-- Bytes that aren't 10, behind a text: they go on with its last line. -/
theorem cutF_more (x : UInt8) : ∀ (a u : Bs) (acc : List Bs) (cur : Bs), x ∉ u → ∀ D c, cutF x acc cur a = D ++ [c] → cutF x acc cur (a ++ u) = D ++ [c ++ u]
  | [], u, acc, cur, hu, D, c, h => by
    rw [List.nil_append, cutF_none x u acc cur hu]
    simp only [cutF] at h
    obtain ⟨rfl, h2⟩ := List.append_inj' h rfl
    simp at h2
    rw [h2]
  | b :: a, u, acc, cur, hu, D, c, h => by
    rw [List.cons_append]
    rw [cutF] at h ⊢
    split
    · rename_i e; rw [if_pos e] at h; exact cutF_more x a u _ _ hu D c h
    · rename_i e; rw [if_neg e] at h; exact cutF_more x a u _ _ hu D c h

theorem linesFrom_app : ∀ (p q : List Bs) (i : Nat) (acc : List Ln), linesFrom i acc (p ++ q) = match linesFrom i acc p with | .wrong k => .wrong k | .good L => linesFrom (i + p.length) L q
  | [], q, i, acc => by simp [linesFrom]
  | a :: p, q, i, acc => by
    rw [List.cons_append, linesFrom, linesFrom]
    split
    · rw [linesFrom_app p q (i + 1)]
      simp only [List.length_cons]
      rw [show i + 1 + p.length = i + (p.length + 1) by omega]
    · rfl
/-- The lines behind others: the same, their numbers behind. -/
def shiftL (k : Nat) (L : List Ln) : List Ln := L.map fun m => (m.1 + k, m.2)
theorem linesFrom_shift : ∀ (p : List Bs) (i k : Nat) (acc acc0 : List Ln), linesFrom (i + k) (acc0 ++ shiftL k acc) p = match linesFrom i acc p with | .wrong j => .wrong (j + k) | .good L => .good (acc0 ++ shiftL k L)
  | [], i, k, acc, acc0 => by simp [linesFrom]
  | a :: p, i, k, acc, acc0 => by
    rw [linesFrom, linesFrom]
    split
    · have e : addL (acc0 ++ shiftL k acc) (i + k) (wordsOf (said a)) = acc0 ++ shiftL k (addL acc i (wordsOf (said a))) := by
        unfold addL
        split
        · rfl
        · simp [shiftL]; omega
      rw [e, show i + k + 1 = i + 1 + k by omega]
      exact linesFrom_shift p (i + 1) k _ acc0
    · simp; omega
theorem res_join (a b : Bs) (L M : List Ln) (ha : res a = .good L) (hb : res b = .good M) : res (a ++ 10 :: b) = .good (L ++ shiftL (linesOf a).length M) := by
  unfold res at *
  have e : linesOf (a ++ 10 :: b) = linesOf a ++ linesOf b := cutF_join 10 a b [] []
  rw [e, linesFrom_app, ha]
  simp only
  have := linesFrom_shift (linesOf b) 0 (linesOf a).length [] L
  rw [hb] at this
  simpa [shiftL] using this
theorem cutF_len (x : UInt8) : ∀ (l : Bs) (acc : List Bs) (cur : Bs), (cutF x acc cur l).length = acc.length + l.count x + 1
  | [], acc, cur => by simp [cutF]
  | c :: l, acc, cur => by
    unfold cutF
    split
    · rename_i h; subst h; rw [cutF_len c l]; simp; omega
    · rename_i h; rw [cutF_len x l, List.count_cons]; simp [h]
theorem linesOf_len (t : Bs) : (linesOf t).length = t.count 10 + 1 := by unfold linesOf; rw [cutF_len]; simp
theorem linesOf_one (l : Bs) (h : (10 : UInt8) ∉ l) : linesOf l = [l] := by unfold linesOf; rw [cutF_none 10 l [] [] h]; simp

theorem said_remark (l r : Bs) : said (l ++ 35 :: r) = said l := by
  induction l with
  | nil => simp [said]
  | cons c l ih =>
    by_cases h : c = 35
    · subst h; simp [said]
    · simp [said, h] at ih ⊢; exact ih
theorem out_remark (l r : Bs) (hl : (10 : UInt8) ∉ l) (hr : (10 : UInt8) ∉ r) (h1 : l.length ≤ 1000) (h2 : r.length ≤ 1000) : outOf (l ++ 35 :: r) = outOf l := by
  unfold outOf res
  rw [if_neg (by simp; omega), if_neg (by omega), linesOf_one l hl, linesOf_one _ (by simp [hl, hr])]
  simp only [linesFrom, said_remark]
theorem out_one (l : Bs) (hl : (10 : UInt8) ∉ l) : (outOf l).1 = [] ∨ ∃ ws, (outOf l).1 = [(1, ws)] := by
  unfold outOf res
  split
  · exact .inl rfl
  · rw [linesOf_one l hl]
    simp only [linesFrom, addL]
    split
    · simp only [Res.out]
      split
      · exact .inl rfl
      · exact .inr ⟨_, rfl⟩
    · exact .inl rfl

/-! ### no line is without words; their numbers -/
theorem linesFrom_ne : ∀ (p : List Bs) (i : Nat) (acc L : List Ln), (∀ m ∈ acc, m.2 ≠ []) → linesFrom i acc p = .good L → ∀ m ∈ L, m.2 ≠ []
  | [], i, acc, L, h, e => by simp [linesFrom] at e; subst e; exact h
  | a :: p, i, acc, L, h, e => by
    rw [linesFrom] at e
    split at e
    · refine linesFrom_ne p _ _ L ?_ e
      unfold addL
      split
      · exact h
      · rename_i hw; intro m hm; simp at hm; rcases hm with hm | rfl
        · exact h m hm
        · exact hw
    · cases e
theorem res_ne (t : Bs) (L : List Ln) (h : res t = .good L) : ∀ m ∈ L, m.2 ≠ [] := linesFrom_ne _ 0 [] L (by simp) h
theorem outOf_ok (t : Bs) (h : (outOf t).2.2 = 0) : t.length ≤ 65536 ∧ res t = .good (outOf t).1 ∧ (outOf t).2.1 = 0 := by
  unfold outOf at *
  split at h
  · simp at h
  · rename_i hl
    rw [if_neg hl]
    cases hr : res t with
    | wrong k => rw [hr] at h; simp [Res.out] at h
    | good L => exact ⟨by omega, by simp [Res.out], rfl⟩

/-! ### sizes -/
theorem wrd_sz : ∀ (l : Bs) (acc : List Bs) (cur : Bs), (wrd acc cur l).length ≤ acc.length + l.length + 1
  | [], acc, cur => by unfold wrd; have := addW_len acc cur; simp; omega
  | c :: l, acc, cur => by
    unfold wrd
    split
    · have := wrd_sz l (addW acc cur) []; have := addW_len acc cur; simp; omega
    · have := wrd_sz l acc (cur ++ [c]); simp; omega
theorem cutF_sz (x : UInt8) : ∀ (l : Bs) (acc : List Bs) (cur : Bs), ∀ p ∈ cutF x acc cur l, p ∈ acc ∨ p.length ≤ cur.length + l.length
  | [], acc, cur, p, hp => by
    simp [cutF] at hp
    rcases hp with hp | rfl
    · exact .inl hp
    · exact .inr (by simp)
  | c :: l, acc, cur, p, hp => by
    unfold cutF at hp
    split at hp
    · rcases cutF_sz x l _ _ p hp with h | h
      · simp at h
        rcases h with h | rfl
        · exact .inl h
        · exact .inr (by simp)
      · exact .inr (by simp at h ⊢; omega)
    · rcases cutF_sz x l _ _ p hp with h | h
      · exact .inl h
      · exact .inr (by simp at h ⊢; omega)
theorem linesOf_sz (t : Bs) : ∀ p ∈ linesOf t, p.length ≤ t.length := fun p hp => by
  rcases cutF_sz 10 t [] [] p hp with h | h
  · simp at h
  · simpa using h
theorem said_sz (l : Bs) : (said l).length ≤ l.length := (List.takeWhile_sublist _).length_le
theorem addL_len (acc : List Ln) (i : Nat) (ws : List Bs) : (addL acc i ws).length ≤ acc.length + 1 := by unfold addL; split <;> simp
theorem linesFrom_at (i : Nat) (acc : List Ln) (l : List Bs) (k : Nat) (hk : k < l.length) : linesFrom i acc (l.drop k) = if plainB (said l[k]) then linesFrom (i + 1) (addL acc i (wordsOf (said l[k]))) (l.drop (k + 1)) else .wrong (i + 1) := by
  rw [List.drop_eq_getElem_cons hk, linesFrom]
theorem out_long (t : Bs) (h : 65536 < t.length) : outOf t = ([], 0, 7) := if_pos h
theorem out_wrong (t : Bs) (h : ¬ 65536 < t.length) {k : Nat} (hr : res t = .wrong k) : outOf t = ([], k, 6) := by unfold outOf; rw [if_neg h, hr]; rfl
theorem out_good (t : Bs) (h : ¬ 65536 < t.length) {L : List Ln} (hr : res t = .good L) : outOf t = (L, 0, 0) := by unfold outOf; rw [if_neg h, hr]; rfl
end Go.Proofs.Lx
