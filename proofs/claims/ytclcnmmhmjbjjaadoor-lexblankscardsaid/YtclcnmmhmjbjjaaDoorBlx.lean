/- Words laid out with blanks and remarks: what Lines finds of them. -/
import Derived.Test.YtclcnmmhmjbjjaaDoorDigits
import Derived.Test.YtclcnmmhmjbjjaaDoorWlong
namespace Go.Proofs.Lx
open Go Go.Proofs.YtclcnmmhmjbjjaaDoor

def IsBl (b : Bs) : Prop := b ≠ [] ∧ (∀ c ∈ b, blankB c = true) ∧ b.length ≤ 3
theorem blank_cases (c : UInt8) (h : blankB c = true) : c = 32 ∨ c = 9 := by unfold blankB at h; simpa using h
theorem dec_cases (c : UInt8) (h : decB c = true) : okB c = true ∧ blankB c = false ∧ c ≠ 10 ∧ c ≠ 35 := by
  have hb := (decB_iff c).1 h
  refine ⟨(okB_iff c).2 (by omega), ?_, fun e => ?_, fun e => ?_⟩
  · cases hx : blankB c with
    | false => rfl
    | true => have := (blankB_iff c).1 hx; omega
  · subst e; simp at hb
  · subst e; simp at hb
theorem blank_ok (c : UInt8) (h : blankB c = true) : okB c = true ∧ c ≠ 10 ∧ c ≠ 35 := by
  rcases blank_cases c h with rfl | rfl <;> decide

theorem wrd_acc : ∀ (l : Bs) (acc : List Bs) (cur : Bs), wrd acc cur l = acc ++ wrd [] cur l
  | [], acc, cur => by unfold wrd addW; split <;> simp
  | c :: l, acc, cur => by
    unfold wrd
    split
    · rw [wrd_acc l (addW acc cur), wrd_acc l (addW [] cur)]
      unfold addW; split <;> simp
    · exact wrd_acc l acc _
theorem wrd_blank_mid : ∀ (a : Bs) (cur : Bs) (b : UInt8) (r : Bs), blankB b = true → wrd [] cur (a ++ b :: r) = wrd [] cur a ++ wrd [] [] r
  | [], cur, b, r, h => by
    rw [List.nil_append]
    conv => lhs; rw [wrd, if_pos h, wrd_acc]
    rfl
  | c :: a, cur, b, r, h => by
    rw [List.cons_append, wrd, wrd]
    split
    · rw [wrd_acc (a ++ b :: r), wrd_acc a, wrd_blank_mid a [] b r h]; simp
    · exact wrd_blank_mid a _ b r h
theorem words_blanks : ∀ (b r : Bs), (∀ c ∈ b, blankB c = true) → wordsOf (b ++ r) = wordsOf r
  | [], r, _ => rfl
  | c :: b, r, h => by
    have := words_blanks b r (fun x hx => h x (by simp [hx]))
    unfold wordsOf at this ⊢
    rw [List.cons_append, wrd, if_pos (h c (by simp))]
    exact this
theorem words_more (a b d : Bs) (hb : IsBl b) : wordsOf (a ++ (b ++ d)) = wordsOf a ++ wordsOf d := by
  obtain ⟨h1, h2, _⟩ := hb
  cases b with
  | nil => exact absurd rfl h1
  | cons c b =>
    have : wordsOf (a ++ c :: (b ++ d)) = wordsOf a ++ wordsOf (b ++ d) := wrd_blank_mid a [] c (b ++ d) (h2 c (by simp))
    rw [List.cons_append, this, words_blanks b d (fun x hx => h2 x (by simp [hx]))]

/-- A line of words so far. -/
def Cur (cur : Bs) (ws : List Bs) : Prop := (∀ c ∈ cur, c ≠ 10 ∧ c ≠ 35 ∧ okB c = true) ∧ wordsOf cur = ws
theorem Cur.nil : Cur [] [] := ⟨by simp, rfl⟩
theorem words_dec (n : Nat) : wordsOf (Lib.decDigits n) = [Lib.decDigits n] := by
  unfold wordsOf
  rw [wrd_letters _ _ _ (fun c hc => (dec_cases c (List.all_eq_true.1 (dec_decs n) c hc)).2.1), List.nil_append, addW, if_neg (dec_ne n)]; rfl
theorem Cur.step {cur b : Bs} {ws : List Bs} (h : Cur cur ws) (hb : IsBl b) (n : Nat) : Cur (cur ++ (b ++ Lib.decDigits n)) (ws ++ [Lib.decDigits n]) := by
  refine ⟨fun c hc => ?_, ?_⟩
  · simp only [List.mem_append] at hc
    rcases hc with hc | hc | hc
    · exact h.1 c hc
    · have := blank_ok c (hb.2.1 c hc); exact ⟨this.2.1, this.2.2, this.1⟩
    · have := dec_cases c (List.all_eq_true.1 (dec_decs n) c hc); exact ⟨this.2.2.1, this.2.2.2, this.1⟩
  · rw [words_more _ _ _ hb, h.2, words_dec]
def Fit (p : Bs) (ws : List Bs) : Prop := plainB (said p) = true ∧ wordsOf (said p) = ws
theorem Cur.fit {cur : Bs} {ws : List Bs} (h : Cur cur ws) : Fit cur ws := by
  have e : said cur = cur := said_all cur (fun c hc => (h.1 c hc).2.1)
  unfold Fit
  rw [e]
  exact ⟨List.all_eq_true.2 fun c hc => (h.1 c hc).2.2, h.2⟩
theorem Cur.fit_remark {cur b : Bs} {ws : List Bs} (h : Cur cur ws) (hb : IsBl b) (r : Bs) : Fit (cur ++ (b ++ 35 :: r)) ws := by
  have e : said (cur ++ (b ++ 35 :: r)) = cur ++ b := by
    rw [← List.append_assoc, said_remark]
    refine said_all _ (fun c hc => ?_)
    simp only [List.mem_append] at hc
    rcases hc with hc | hc
    · exact (h.1 c hc).2.1
    · exact (blank_ok c (hb.2.1 c hc)).2.2
  unfold Fit
  rw [e]
  refine ⟨List.all_eq_true.2 fun c hc => ?_, ?_⟩
  · simp only [List.mem_append] at hc
    rcases hc with hc | hc
    · exact (h.1 c hc).2.2
    · exact (blank_ok c (hb.2.1 c hc)).1
  · have := words_more cur b [] hb
    rw [List.append_nil] at this
    rw [this, h.2]
    show ws ++ [] = ws
    simp
def Fits : List Bs → List (List Bs) → Prop
  | [], [] => True
  | p :: D, ws :: W => Fit p ws ∧ Fits D W
  | _, _ => False
theorem Fits.snoc : ∀ {D : List Bs} {W : List (List Bs)} {p : Bs} {ws : List Bs}, Fits D W → Fit p ws → Fits (D ++ [p]) (W ++ [ws])
  | [], [], _, _, _, h => ⟨h, trivial⟩
  | _ :: _, _ :: _, _, _, h, k => ⟨h.1, Fits.snoc h.2 k⟩
  | [], _ :: _, _, _, h, _ => h.elim
  | _ :: _, [], _, _, h, _ => h.elim
def gath (i : Nat) (acc : List Ln) : List (List Bs) → List Ln
  | [] => acc
  | ws :: r => gath (i + 1) (addL acc i ws) r
theorem lines_fits : ∀ (D : List Bs) (W : List (List Bs)) (i : Nat) (acc : List Ln), Fits D W → linesFrom i acc D = .good (gath i acc W)
  | [], [], i, acc, _ => rfl
  | p :: D, ws :: W, i, acc, h => by
    rw [linesFrom, if_pos h.1.1, h.1.2, gath]
    exact lines_fits D W (i + 1) _ h.2
  | [], _ :: _, _, _, h => h.elim
  | _ :: _, [], _, _, h => h.elim
theorem gath_app : ∀ (A B : List (List Bs)) (i : Nat) (acc : List Ln), gath i acc (A ++ B) = gath (i + A.length) (gath i acc A) B
  | [], B, i, acc => rfl
  | a :: A, B, i, acc => by
    rw [List.cons_append, gath, gath, gath_app A B (i + 1)]
    rw [List.length_cons, show i + 1 + A.length = i + (A.length + 1) by omega]
theorem gath_pre : ∀ (B : List (List Bs)) (i : Nat) (acc : List Ln), ∃ r, gath i acc B = acc ++ r
  | [], i, acc => ⟨[], by simp [gath]⟩
  | b :: B, i, acc => by
    obtain ⟨r, hr⟩ := gath_pre B (i + 1) (addL acc i b)
    rw [gath, hr]
    unfold addL
    split
    · exact ⟨r, rfl⟩
    · exact ⟨[(i + 1, b)] ++ r, by simp⟩
theorem gath_take (W : List (List Bs)) (i : Nat) (ws : List Bs) (h : W[i]? = some ws) : gath 0 [] (W.take (i + 1)) = addL (gath 0 [] (W.take i)) i ws := by
  have hl : i < W.length := (List.getElem?_eq_some_iff.1 h).1
  rw [List.take_add_one, h, gath_app]
  show gath _ _ [ws] = _
  rw [gath, gath, List.length_take, Nat.zero_add, Nat.min_eq_left (by omega)]
theorem gath_at (W : List (List Bs)) (i : Nat) (ws : List Bs) (h : W[i]? = some ws) (hw : ws ≠ []) : (gath 0 [] W)[(gath 0 [] (W.take i)).length]? = some (i + 1, ws) := by
  have h1 := gath_take W i ws h
  have h2 : gath 0 [] W = gath (0 + (W.take (i + 1)).length) (gath 0 [] (W.take (i + 1))) (W.drop (i + 1)) := by rw [← gath_app, List.take_append_drop]
  obtain ⟨r, hr⟩ := gath_pre (W.drop (i + 1)) (0 + (W.take (i + 1)).length) (gath 0 [] (W.take (i + 1)))
  rw [h2, hr, h1, addL, if_neg hw]
  simp
theorem gath_len (W : List (List Bs)) (i : Nat) : (gath 0 [] (W.take i)).length ≤ (gath 0 [] W).length := by
  have h2 : gath 0 [] W = gath (0 + (W.take i).length) (gath 0 [] (W.take i)) (W.drop i) := by rw [← gath_app, List.take_append_drop]
  obtain ⟨r, hr⟩ := gath_pre (W.drop i) (0 + (W.take i).length) (gath 0 [] (W.take i))
  rw [h2, hr]; simp

/-- The text behind i lines. -/
def Txt (W : List (List Bs)) (i : Nat) (T : Bs) : Prop := (i = 0 ∧ T = []) ∨ (0 < i ∧ Fits (linesOf T) (W.take i))
/-- The text inside of line i: the words so far. -/
def Mid (W : List (List Bs)) (i : Nat) (T : Bs) (ws : List Bs) : Prop := ∃ D cur, linesOf T = D ++ [cur] ∧ Fits D (W.take i) ∧ Cur cur ws
theorem Txt.mid0 {W : List (List Bs)} {T : Bs} (h : Txt W 0 T) : Mid W 0 T [] := by
  rcases h with ⟨_, rfl⟩ | ⟨h, _⟩
  · exact ⟨[], [], rfl, trivial, Cur.nil⟩
  · omega
theorem Txt.mid {W : List (List Bs)} {i : Nat} {T : Bs} (h : Txt W i T) (hi : 0 < i) : Mid W i (T ++ [10]) [] := by
  rcases h with ⟨h, _⟩ | ⟨_, h⟩
  · omega
  · refine ⟨linesOf T, [], ?_, h, Cur.nil⟩
    exact cutF_join 10 T [] [] []
theorem Mid.step {W : List (List Bs)} {i : Nat} {T b : Bs} {ws : List Bs} (h : Mid W i T ws) (hb : IsBl b) (n : Nat) : Mid W i (T ++ (b ++ Lib.decDigits n)) (ws ++ [Lib.decDigits n]) := by
  obtain ⟨D, cur, h1, h2, h3⟩ := h
  refine ⟨D, cur ++ (b ++ Lib.decDigits n), ?_, h2, h3.step hb n⟩
  refine cutF_more 10 T _ [] [] (fun hc => ?_) D cur h1
  simp only [List.mem_append] at hc
  rcases hc with hc | hc
  · exact (blank_ok _ (hb.2.1 _ hc)).2.1 rfl
  · exact (dec_cases _ (List.all_eq_true.1 (dec_decs n) _ hc)).2.2.1 rfl
theorem Mid.done {W : List (List Bs)} {i : Nat} {T : Bs} {ws : List Bs} (h : Mid W i T ws) (hw : W[i]? = some ws) : Txt W (i + 1) T := by
  obtain ⟨D, cur, h1, h2, h3⟩ := h
  refine .inr ⟨by omega, ?_⟩
  rw [h1, List.take_add_one, hw]
  exact h2.snoc h3.fit
theorem Mid.done_remark {W : List (List Bs)} {i : Nat} {T b : Bs} {ws : List Bs} (h : Mid W i T ws) (hw : W[i]? = some ws) (hb : IsBl b) (r : Bs) (hr : (10 : UInt8) ∉ r) : Txt W (i + 1) (T ++ (b ++ 35 :: r)) := by
  obtain ⟨D, cur, h1, h2, h3⟩ := h
  refine .inr ⟨by omega, ?_⟩
  have e : linesOf (T ++ (b ++ 35 :: r)) = D ++ [cur ++ (b ++ 35 :: r)] := by
    refine cutF_more 10 T _ [] [] (fun hc => ?_) D cur h1
    simp only [List.mem_append, List.mem_cons] at hc
    rcases hc with hc | hc | hc
    · exact (blank_ok _ (hb.2.1 _ hc)).2.1 rfl
    · exact absurd hc (by decide)
    · exact hr hc
  rw [e, List.take_add_one, hw]
  exact h2.snoc (h3.fit_remark hb r)
theorem Txt.out {W : List (List Bs)} {T : Bs} (h : Txt W W.length T) (hT : T.length ≤ 65536) : outOf T = (gath 0 [] W, 0, 0) := by
  rcases h with ⟨h, rfl⟩ | ⟨_, h⟩
  · have : W = [] := List.eq_nil_of_length_eq_zero h
    subst this
    decide
  · rw [List.take_length] at h
    exact out_good T (by omega) (lines_fits _ _ 0 [] h)
end Go.Proofs.Lx
