/- The one in the middle, of plain lists: what is at a place of a sorted list, told by counting. Over no program. -/
import Derived.Lib.Slices
namespace Go.Proofs.YtjjcoblbiagflaaGreat

structure Tot {α : Type} (le : α → α → Bool) : Prop where
  trans : ∀ a b c, le a b = true → le b c = true → le a c = true
  total : ∀ a b, (le a b || le b a) = true
  anti : ∀ a b, le a b = true → le b a = true → a = b
section
variable {α : Type} {le : α → α → Bool}
/-- No more than k are less than m, and more than k are not greater. -/
def At (le : α → α → Bool) (l : List α) (k : Nat) (m : α) : Prop := l.countP (fun x => !le m x) ≤ k ∧ k < l.countP (fun x => le x m)
theorem srt_sorted (T : Tot le) (l : List α) : (l.mergeSort le).Pairwise (fun a b => le a b = true) := List.pairwise_mergeSort T.trans T.total l
theorem sorted_at (T : Tot le) {s : List α} (h : s.Pairwise (fun a b => le a b = true)) (k : Nat) (hk : k < s.length) : At le s k s[k] := by
  have e : s = s.take k ++ s[k] :: s.drop (k + 1) := by simp
  have hp : (s.take k ++ s[k] :: s.drop (k + 1)).Pairwise (fun a b => le a b = true) := by rw [← e]; exact h
  rw [List.pairwise_append, List.pairwise_cons] at hp
  obtain ⟨_, ⟨h2, _⟩, h3⟩ := hp
  have hr : le s[k] s[k] = true := by have := T.total s[k] s[k]; simpa using this
  refine ⟨?_, ?_⟩
  · rw [show s.countP (fun x => !le s[k] x) = (s.take k ++ s[k] :: s.drop (k + 1)).countP (fun x => !le s[k] x) by rw [← e], List.countP_append, List.countP_cons]
    have h0 : (s.drop (k + 1)).countP (fun x => !le s[k] x) = 0 := List.countP_eq_zero.2 fun x hx => by simp [h2 x hx]
    have h1 : (s.take k).countP (fun x => !le s[k] x) ≤ (s.take k).length := List.countP_le_length
    rw [h0]
    simp [hr] at h1 ⊢
    omega
  · rw [show s.countP (fun x => le x s[k]) = (s.take k ++ s[k] :: s.drop (k + 1)).countP (fun x => le x s[k]) by rw [← e], List.countP_append, List.countP_cons]
    have h1 : (s.take k).countP (fun x => le x s[k]) = (s.take k).length := List.countP_eq_length.2 fun x hx => h3 x hx _ List.mem_cons_self
    rw [h1, List.length_take]
    simp [hr]
    omega
theorem At.perm {l l' : List α} {k : Nat} {m : α} (h : At le l k m) (p : l.Perm l') : At le l' k m := ⟨by rw [← p.countP_eq]; exact h.1, by rw [← p.countP_eq]; exact h.2⟩
theorem srt_at (T : Tot le) (l : List α) (k : Nat) (d : α) (hk : k < l.length) : At le l k ((l.mergeSort le).getD k d) := by
  have hk' : k < (l.mergeSort le).length := by simpa using hk
  have := sorted_at T (srt_sorted T l) k hk'
  have e : (l.mergeSort le).getD k d = (l.mergeSort le)[k] := by rw [List.getD_eq_getElem?_getD, List.getElem?_eq_getElem hk']; rfl
  rw [e]
  exact this.perm (List.mergeSort_perm l le)
theorem At.leq {l : List α} {k : Nat} {m m' : α} (T : Tot le) (h : At le l k m) (h' : At le l k m') : le m m' = true := by
  by_cases c : le m m' = true
  · exact c
  · exfalso
    have h1 : l.countP (fun x => le x m') ≤ l.countP (fun x => !le m x) := List.countP_mono_left fun x _ hx => by
      simp only [Bool.not_eq_true']
      by_cases c2 : le m x = true
      · exact absurd (T.trans _ _ _ c2 hx) c
      · simpa using c2
    have := h.1; have := h'.2; omega
theorem At.unique {l : List α} {k : Nat} {m m' : α} (T : Tot le) (h : At le l k m) (h' : At le l k m') : m = m' := T.anti _ _ (h.leq T h') (h'.leq T h)
theorem At.mem {l : List α} {k : Nat} {m : α} (T : Tot le) (h : At le l k m) : m ∈ l := by
  by_cases c : ∃ x ∈ l, (le x m && le m x) = true
  · obtain ⟨x, hx, c⟩ := c
    simp only [Bool.and_eq_true] at c
    rw [T.anti _ _ c.2 c.1]; exact hx
  · exfalso
    have h1 : l.countP (fun x => le x m) ≤ l.countP (fun x => !le m x) := List.countP_mono_left fun x hx h => by
      simp only [Bool.not_eq_true']
      by_cases c2 : le m x = true
      · exact absurd ⟨x, hx, by simp [h, c2]⟩ c
      · simpa using c2
    have := h.1; have := h.2; omega
/-- A sorted list with the same things is the sorted one. -/
theorem srt_unique (T : Tot le) {s l : List α} (h : s.Pairwise (fun a b => le a b = true)) (p : s.Perm l) : s = l.mergeSort le :=
  (p.trans (List.mergeSort_perm l le).symm).eq_of_pairwise (fun a b _ _ h1 h2 => T.anti a b h1 h2) h (srt_sorted T l)
end

abbrev leI : Int → Int → Bool := fun x y => decide (x ≤ y)
abbrev leS : List UInt8 → List UInt8 → Bool := fun x y => decide (x ≤ y)
theorem totI : Tot leI := ⟨fun a b c h1 h2 => by simp only [leI, decide_eq_true_eq] at *; omega, fun a b => by simp only [leI, Bool.or_eq_true, decide_eq_true_eq]; omega, fun a b h1 h2 => by simp only [leI, decide_eq_true_eq] at *; omega⟩
theorem totS : Tot leS := ⟨fun a b c h1 h2 => by simp only [leS, decide_eq_true_eq] at *; exact List.le_trans h1 h2, fun a b => by simp only [leS, Bool.or_eq_true, decide_eq_true_eq]; exact List.le_total a b, fun a b h1 h2 => by simp only [leS, decide_eq_true_eq] at *; exact List.le_antisymm h1 h2⟩

/-! Numbers. -/
/-- The one in the middle of some numbers. -/
def mid (l : List Int) : Int := (l.mergeSort leI).getD ((l.length - 1) / 2) 0
theorem mid_at (l : List Int) (h : 0 < l.length) : At leI l ((l.length - 1) / 2) (mid l) := srt_at totI l _ 0 (by omega)
theorem mid_of {l : List Int} {m : Int} (h : At leI l ((l.length - 1) / 2) m) : m = mid l := by
  have h0 : 0 < l.length := by have := h.2; have := List.countP_le_length (p := fun x => leI x m) (l := l); omega
  exact h.unique totI (mid_at l h0)
theorem mid_mem (l : List Int) (h : 0 < l.length) : mid l ∈ l := (mid_at l h).mem totI
theorem minOf_le : ∀ (l : List Int) (x : Int), x ∈ l → Lib.minOf l ≤ x := by
  have H : ∀ (l : List Int) (a : Int), l.foldl min a ≤ a ∧ ∀ x ∈ l, l.foldl min a ≤ x := by
    intro l
    induction l with
    | nil => intro a; exact ⟨Int.le_refl _, fun x h => by cases h⟩
    | cons y l ih =>
      intro a
      obtain ⟨h1, h2⟩ := ih (min a y)
      rw [List.foldl_cons]
      refine ⟨by omega, fun x hx => ?_⟩
      rcases List.mem_cons.1 hx with rfl | hx
      · omega
      · exact h2 x hx
  intro l x hx
  exact (H l _).2 x hx
theorem maxOf_ge : ∀ (l : List Int) (x : Int), x ∈ l → x ≤ Lib.maxOf l := by
  have H : ∀ (l : List Int) (a : Int), a ≤ l.foldl max a ∧ ∀ x ∈ l, x ≤ l.foldl max a := by
    intro l
    induction l with
    | nil => intro a; exact ⟨Int.le_refl _, fun x h => by cases h⟩
    | cons y l ih =>
      intro a
      obtain ⟨h1, h2⟩ := ih (max a y)
      rw [List.foldl_cons]
      refine ⟨by omega, fun x hx => ?_⟩
      rcases List.mem_cons.1 hx with rfl | hx
      · omega
      · exact h2 x hx
  intro l x hx
  exact (H l _).2 x hx
theorem minOf_mem (l : List Int) (h : 0 < l.length) : Lib.minOf l ∈ l := by
  have H : ∀ (l : List Int) (a : Int), l.foldl min a = a ∨ l.foldl min a ∈ l := by
    intro l
    induction l with
    | nil => intro a; exact .inl rfl
    | cons y l ih =>
      intro a
      rw [List.foldl_cons]
      rcases ih (min a y) with h | h
      · rw [h]
        rcases Int.le_total a y with c | c
        · left; omega
        · right; rw [Int.min_eq_right c]; simp
      · right; exact List.mem_cons_of_mem _ h
  cases l with
  | nil => simp at h
  | cons x l =>
    unfold Lib.minOf
    rcases H (x :: l) ((x :: l).headD 0) with h | h
    · rw [h]; simp
    · exact h
theorem maxOf_mem (l : List Int) (h : 0 < l.length) : Lib.maxOf l ∈ l := by
  have H : ∀ (l : List Int) (a : Int), l.foldl max a = a ∨ l.foldl max a ∈ l := by
    intro l
    induction l with
    | nil => intro a; exact .inl rfl
    | cons y l ih =>
      intro a
      rw [List.foldl_cons]
      rcases ih (max a y) with h | h
      · rw [h]
        rcases Int.le_total a y with c | c
        · right; rw [Int.max_eq_right c]; simp
        · left; omega
      · right; exact List.mem_cons_of_mem _ h
  cases l with
  | nil => simp at h
  | cons x l =>
    unfold Lib.maxOf
    rcases H (x :: l) ((x :: l).headD 0) with h | h
    · rw [h]; simp
    · exact h
theorem srt_min (l : List Int) (h : 0 < l.length) : Lib.minOf l = (l.mergeSort leI).getD 0 0 := by
  have hl : 0 < (l.mergeSort leI).length := by simpa using h
  have e : (l.mergeSort leI).getD 0 0 = (l.mergeSort leI)[0] := by rw [List.getD_eq_getElem?_getD, List.getElem?_eq_getElem hl]; rfl
  rw [e]
  have hm : (l.mergeSort leI)[0] ∈ l := List.mem_mergeSort.1 (List.getElem_mem hl)
  have h1 := minOf_le l _ hm
  have h2 : Lib.minOf l ∈ l.mergeSort leI := List.mem_mergeSort.2 (minOf_mem l h)
  obtain ⟨i, hi, he⟩ := List.getElem_of_mem h2
  rcases Nat.eq_zero_or_pos i with h0 | h0
  · subst h0; omega
  · have := List.pairwise_iff_getElem.1 (srt_sorted totI l) 0 i hl hi h0
    simp only [leI, decide_eq_true_eq] at this
    omega
theorem srt_max (l : List Int) (h : 0 < l.length) : Lib.maxOf l = (l.mergeSort leI).getD (l.length - 1) 0 := by
  have hl : l.length - 1 < (l.mergeSort leI).length := by rw [List.length_mergeSort]; omega
  have e : (l.mergeSort leI).getD (l.length - 1) 0 = (l.mergeSort leI)[l.length - 1] := by rw [List.getD_eq_getElem?_getD, List.getElem?_eq_getElem hl]; rfl
  rw [e]
  have hm : (l.mergeSort leI)[l.length - 1] ∈ l := List.mem_mergeSort.1 (List.getElem_mem hl)
  have h1 := maxOf_ge l _ hm
  have h2 : Lib.maxOf l ∈ l.mergeSort leI := List.mem_mergeSort.2 (maxOf_mem l h)
  obtain ⟨i, hi, he⟩ := List.getElem_of_mem h2
  have hi' : i < l.length := by simpa using hi
  by_cases h0 : i = l.length - 1
  · subst h0; omega
  · have := List.pairwise_iff_getElem.1 (srt_sorted totI l) i (l.length - 1) hi hl (by omega)
    simp only [leI, decide_eq_true_eq] at this
    omega
theorem countI_lt (l : List Int) (m : Int) : l.countP (fun x => !leI m x) = l.countP (fun x => decide (x < m)) := by
  congr 1; funext x
  rw [Bool.eq_iff_iff]
  simp [leI]
/-- P11.3: fewer than half may be anything. -/
theorem mid_lies (h g : List Int) (hl : g.length < h.length) : Lib.minOf h ≤ mid (h ++ g) ∧ mid (h ++ g) ≤ Lib.maxOf h := by
  have A := mid_at (h ++ g) (by simp; omega)
  obtain ⟨a1, a2⟩ := A
  rw [List.countP_append, List.length_append] at a1 a2
  have c1 := List.countP_le_length (p := fun x => leI x (mid (h ++ g))) (l := g)
  refine ⟨?_, ?_⟩
  · by_cases c : Lib.minOf h ≤ mid (h ++ g)
    · exact c
    · exfalso
      have : h.countP (fun x => leI x (mid (h ++ g))) = 0 := List.countP_eq_zero.2 fun x hx => by
        have := minOf_le h x hx
        simp only [leI, decide_eq_true_eq]; omega
      omega
  · by_cases c : mid (h ++ g) ≤ Lib.maxOf h
    · exact c
    · exfalso
      have : h.countP (fun x => !leI (mid (h ++ g)) x) = h.length := List.countP_eq_length.2 fun x hx => by
        have := maxOf_ge h x hx
        simp only [leI, Bool.not_eq_true', decide_eq_false_iff_not]; omega
      omega
theorem mid_twice (l : List Int) (h : 0 < l.length) : mid (l ++ l) = mid l := by
  obtain ⟨a1, a2⟩ := mid_at l h
  refine (mid_of ⟨?_, ?_⟩).symm
  · rw [List.countP_append, List.length_append]; omega
  · rw [List.countP_append, List.length_append]; omega
theorem mid_more (l : List Int) (h : 0 < l.length) : mid (l ++ [mid l]) = mid l := by
  obtain ⟨a1, a2⟩ := mid_at l h
  refine (mid_of ⟨?_, ?_⟩).symm
  · rw [List.countP_append, List.length_append]; simp [leI] at a1 ⊢; omega
  · rw [List.countP_append, List.length_append]; simp [leI] at a2 ⊢; omega
theorem mid_perm {l l' : List Int} (p : l.Perm l') : mid l = mid l' := by
  have e : l.mergeSort leI = l'.mergeSort leI := srt_unique totI (srt_sorted totI l) ((List.mergeSort_perm l leI).trans p)
  unfold mid
  rw [e, p.length_eq]
theorem srt_shift (l : List Int) (c : Int) : (l.map (· + c)).mergeSort leI = (l.mergeSort leI).map (· + c) :=
  (List.map_mergeSort fun a _ b _ => by rw [Bool.eq_iff_iff]; simp only [leI, decide_eq_true_eq]; omega).symm
theorem getD_map_int (s : List Int) (f : Int → Int) (k : Nat) (h : k < s.length) : (s.map f).getD k 0 = f (s.getD k 0) := by
  simp [List.getD_eq_getElem?_getD, List.getElem?_map, List.getElem?_eq_getElem h]
theorem mid_shift (l : List Int) (c : Int) (h : 0 < l.length) : mid (l.map (· + c)) = mid l + c := by
  unfold mid
  rw [srt_shift, List.length_map, getD_map_int _ _ _ (by rw [List.length_mergeSort]; omega)]
theorem srt_neg (l : List Int) : (l.map (fun x => -x)).mergeSort leI = ((l.mergeSort leI).map (fun x => -x)).reverse := by
  refine (srt_unique totI ?_ ?_).symm
  · rw [List.pairwise_reverse, List.pairwise_map]
    exact (srt_sorted totI l).imp fun {a b} h => by simp only [leI, decide_eq_true_eq] at *; omega
  · exact (List.reverse_perm _).trans ((List.mergeSort_perm l leI).map _)
theorem mid_neg (l : List Int) (h : 0 < l.length) : mid (l.map (fun x => -x)) = -((l.mergeSort leI).getD (l.length / 2) 0) := by
  unfold mid
  rw [srt_neg, List.length_map, List.getD_eq_getElem?_getD, List.getElem?_reverse (by rw [List.length_map, List.length_mergeSort]; omega), List.length_map, List.length_mergeSort, ← List.getD_eq_getElem?_getD, getD_map_int _ _ _ (by rw [List.length_mergeSort]; omega)]
  congr 2
  omega

/-! The document's: each laid in its place. -/
def place (s : List Int) (x : Int) : Nat := (s.takeWhile (fun y => decide (y ≤ x))).length
def ins (s : List Int) (x : Int) : List Int := s.take (place s x) ++ x :: s.drop (place s x)
theorem place_le (s : List Int) (x : Int) : place s x ≤ s.length := (List.takeWhile_sublist _).length_le
theorem place_is {s : List Int} {x : Int} {k : Nat} (h1 : ∀ j, j < k → ∃ y, s[j]? = some y ∧ y ≤ x) (h2 : k = s.length ∨ ∃ y, s[k]? = some y ∧ ¬ y ≤ x) : place s x = k := by
  induction s generalizing k with
  | nil =>
    rcases h2 with h2 | ⟨y, hy, _⟩
    · simp [place, h2]
    · simp at hy
  | cons a s ih =>
    cases k with
    | zero =>
      rcases h2 with h2 | ⟨y, hy, hx⟩
      · simp at h2
      · simp at hy; subst hy; simp [place, hx]
    | succ k =>
      obtain ⟨y, hy, hx⟩ := h1 0 (by omega)
      simp at hy
      subst hy
      have := ih (k := k) (fun j hj => by have := h1 (j + 1) (by omega); simpa using this) (by simpa using h2)
      simp only [place] at this ⊢
      simp [hx, this]
theorem ins_perm (s : List Int) (x : Int) : (ins s x).Perm (s ++ [x]) := by
  unfold ins
  refine List.perm_middle.trans ?_
  rw [List.take_append_drop]
  exact (List.perm_append_singleton x s).symm
theorem ins_sorted {s : List Int} (x : Int) (h : s.Pairwise (fun a b => leI a b = true)) : (ins s x).Pairwise (fun a b => leI a b = true) := by
  unfold ins
  have e : s.take (place s x) = s.takeWhile (fun y => decide (y ≤ x)) := by
    have := List.takeWhile_prefix (l := s) (fun y => decide (y ≤ x))
    exact (List.prefix_iff_eq_take.1 this).symm
  have e2 : s.drop (place s x) = s.dropWhile (fun y => decide (y ≤ x)) := by
    have h1 := List.takeWhile_append_dropWhile (p := fun y => decide (y ≤ x)) (l := s)
    have h2 := List.take_append_drop (place s x) s
    rw [e] at h2
    exact List.append_cancel_left (h2.trans h1.symm)
  rw [List.pairwise_append, List.pairwise_cons]
  refine ⟨h.sublist (List.take_sublist _ _), ⟨fun y hy => ?_, h.sublist (List.drop_sublist _ _)⟩, fun a ha b hb => ?_⟩
  · rw [e2] at hy
    cases hd : s.dropWhile (fun y => decide (y ≤ x)) with
    | nil => rw [hd] at hy; cases hy
    | cons z zs =>
      have hz : ¬ z ≤ x := by
        have hne : s.dropWhile (fun y => decide (y ≤ x)) ≠ [] := by rw [hd]; simp
        have := List.head_dropWhile_not (fun y => decide (y ≤ x)) hne
        simp only [hd, List.head_cons] at this
        simpa using this
      have hp : (z :: zs).Pairwise (fun a b => leI a b = true) := by rw [← hd]; exact h.sublist (List.dropWhile_sublist _)
      rw [hd] at hy
      rcases List.mem_cons.1 hy with rfl | hy
      · simp only [leI, decide_eq_true_eq]; omega
      · have := (List.pairwise_cons.1 hp).1 y hy
        simp only [leI, decide_eq_true_eq] at this ⊢; omega
  · rw [e] at ha
    have hax : a ≤ x := by simpa using List.all_eq_true.1 (List.all_takeWhile (p := fun y => decide (y ≤ x)) (l := s)) a ha
    rcases List.mem_cons.1 hb with rfl | hb
    · simpa [leI] using hax
    · have hp : (s.take (place s x) ++ s.drop (place s x)).Pairwise (fun a b => leI a b = true) := by rw [List.take_append_drop]; exact h
      exact (List.pairwise_append.1 hp).2.2 a (by rw [e]; exact ha) b hb
/-- What the document's loop has after so many. -/
theorem ins_srt (l : List Int) (x : Int) : ins (l.mergeSort leI) x = (l ++ [x]).mergeSort leI :=
  srt_unique totI (ins_sorted x (srt_sorted totI l)) ((ins_perm _ _).trans ((List.mergeSort_perm l leI).append_right _))
end Go.Proofs.YtjjcoblbiagflaaGreat
