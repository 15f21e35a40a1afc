/- A config's lines, joined anew: in another order, with remarks between, one of them left out or laid twice. -/
import Derived.Test.YtlbabhddjdhalaaDoorPure2
namespace Go.Proofs.YtlbabhddjdhalaaDoor
open Go.RowKit Go.Proofs.Lx

theorem join_two (p q : Bs) (r : List Bs) (sep : Bs) : Lib.join (p :: q :: r) sep = p ++ sep ++ Lib.join (q :: r) sep := by
  rw [Lib.join_cons, Lib.join_cons]
  simp [Lib.joinTail]
theorem joinL_join : ∀ (ps : List Bs), ps ≠ [] → joinL ps [] = Lib.join ps [10] ++ [10]
  | [p], _ => by rw [Lib.join_one]; simp [joinL]
  | p :: q :: r, _ => by
    have ih := joinL_join (q :: r) (by simp)
    rw [join_two]
    have e : joinL (p :: q :: r) [] = p ++ [10] ++ joinL (q :: r) [] := by simp [joinL]
    rw [e, ih]; simp
theorem join_snoc : ∀ (ps : List Bs) (x sep : Bs), ps ≠ [] → Lib.join (ps ++ [x]) sep = Lib.join ps sep ++ sep ++ x
  | [p], x, sep, _ => by rw [List.singleton_append, join_two, Lib.join_one, Lib.join_one]
  | p :: q :: r, x, sep, _ => by
    have ih := join_snoc (q :: r) x sep (by simp)
    rw [List.cons_append, List.cons_append, join_two, ← List.cons_append, ih, join_two]; simp
theorem join_le (sep : Bs) (hs : sep.length ≤ 10) : ∀ (ps : List Bs), (∀ p ∈ ps, p.length ≤ 60) → (Lib.join ps sep).length ≤ 70 * ps.length
  | [], _ => by rw [Lib.join_nil]; simp
  | [p], h => by rw [Lib.join_one]; have := h p (by simp); simp; omega
  | p :: q :: r, h => by
    have ih := join_le sep hs (q :: r) (fun x hx => h x (by simp [hx]))
    have := h p (by simp)
    rw [join_two]; simp at ih ⊢; omega
theorem linesOf_hit (p t : Bs) (h : (10 : UInt8) ∉ p) : linesOf (p ++ 10 :: t) = p :: linesOf t := by
  have hj : linesOf (p ++ 10 :: t) = linesOf p ++ linesOf t := cutF_join 10 p _ [] []
  rw [hj, linesOf_one p h]; rfl
theorem linesOf_joined : ∀ (ps : List Bs), ps ≠ [] → (∀ p ∈ ps, (10 : UInt8) ∉ p) → linesOf (Lib.join ps [10]) = ps
  | [p], _, h => by rw [Lib.join_one, linesOf_one p (h p (by simp))]
  | p :: q :: r, _, h => by
    rw [join_two, List.append_assoc, List.singleton_append, linesOf_hit p _ (h p (by simp)), linesOf_joined (q :: r) (by simp) (fun x hx => h x (by simp [hx]))]

/-- A line of words alone. -/
structure PureL (p : Bs) (ws : List Bs) : Prop where
  mark : ∀ x ∈ p, x ≠ 35
  stop : (10 : UInt8) ∉ p
  plain : plainB p = true
  words : wordsOf p = ws
  ne : ws ≠ []
  len : p.length ≤ 60
theorem PureL.whole {p : Bs} {ws : List Bs} (h : PureL p ws) : whole p ws := by
  unfold YtlbabhddjdhalaaDoor.whole
  rw [said_none p h.mark]
  exact ⟨h.plain, h.words, h.ne⟩
theorem body_pure {word : Bs} {ns : List Int} (hw : word ≠ []) (h6 : word.length ≤ 6) (h2 : ns.length ≤ 2) (hb : wbs word) (hf : ∀ n ∈ ns, fits n) : PureL (body word ns) (word :: ns.map textOf) where
  mark := fun x hx => by
    rcases body_bytes word ns hb x hx with h | h
    · simp [wb] at h; simp [h]
    · subst h; decide
  stop := body_end word ns hb
  plain := body_plain word ns hb
  words := words_body word ns hw hb hf
  ne := by simp
  len := by
    have := line_len word ns h6 h2
    rw [lineOf_body] at this
    simp at this; omega
theorem lines_pure {c : Cfg} (h : Fit5 c) : ∀ x ∈ linesC c, PureL x.1 x.2 := by
  obtain ⟨w0, w1, w2, w3, w4⟩ := five_wbs
  intro x hx
  unfold linesC at hx
  rcases List.mem_append.1 hx with hx | hx
  · obtain ⟨a, ha, rfl⟩ := List.mem_map.1 hx
    exact body_pure (ns := [a]) (by decide) (by decide) (by simp) w0 (fun n hn => by simp at hn; rw [hn]; exact h.S a ha)
  · simp only [List.mem_cons, List.not_mem_nil, or_false] at hx
    rcases hx with rfl | rfl | rfl | rfl
    · exact body_pure (ns := [c.q]) (by decide) (by decide) (by simp) w1 (fun n hn => by simp at hn; subst hn; exact h.q)
    · exact body_pure (ns := [c.l, c.m]) (by decide) (by decide) (by simp) w2 (fun n hn => by simp at hn; rcases hn with rfl | rfl; exact h.l; exact h.m)
    · exact body_pure (ns := [c.d]) (by decide) (by decide) (by simp) w3 (fun n hn => by simp at hn; subst hn; exact h.d)
    · exact body_pure (ns := [c.s]) (by decide) (by decide) (by simp) w4 (fun n hn => by simp at hn; subst hn; exact h.s)

/-! ### lines joined by a byte 10 -/
theorem joined_len (ps : List (Bs × List Bs)) (sep : Bs) (hs : sep.length ≤ 10) (h : ∀ x ∈ ps, PureL x.1 x.2) : (Lib.join (ps.map (·.1)) sep).length ≤ 70 * ps.length := by
  have := join_le sep hs (ps.map (·.1)) (fun p hp => by
    obtain ⟨x, hx, rfl⟩ := List.mem_map.1 hp
    exact (h x hx).len)
  rw [List.length_map] at this
  exact this
theorem parse_joined (ps : List (Bs × List Bs)) (h0 : ps ≠ []) (hl : ps.length ≤ 100) (h : ∀ x ∈ ps, PureL x.1 x.2) : parseOf (Lib.join (ps.map (·.1)) [10]) = runL St.none (numL 0 (ps.map (·.2))) := by
  have hz := joined_len ps [10] (by decide) h
  refine parse_of_good (by omega) ?_
  unfold res
  rw [linesOf_joined _ (by simpa using h0) (fun p hp => by
    obtain ⟨x, hx, rfl⟩ := List.mem_map.1 hp
    exact (h x hx).stop)]
  have := linesFrom_whole ps 0 [] [] (fun x hx => (h x hx).whole)
  rw [List.append_nil] at this
  rw [this]
  simp [linesFrom]
theorem parse_steps (ps : List (Bs × List Bs)) (h0 : ps ≠ []) (hl : ps.length ≤ 100) (h : ∀ x ∈ ps, PureL x.1 x.2) {st : St} (hst : steps St.none (ps.map (·.2)) = some st) : parseOf (Lib.join (ps.map (·.1)) [10]) = fin st := by
  have := runL_steps _ _ _ 0 [] hst
  rw [List.append_nil] at this
  rw [parse_joined ps h0 hl h, this]
  rfl
theorem bodies_ne (c : Cfg) : (linesC c).map (·.1) ≠ [] := by unfold linesC; simp
theorem print_join10 (c : Cfg) : printOf c = Lib.join ((linesC c).map (·.1)) [10] ++ [10] := by
  have := print_join c []
  rw [List.append_nil] at this
  rw [this, joinL_join _ (bodies_ne c)]
theorem trim_print (c : Cfg) : Lib.trimSuffix (printOf c) [10] = Lib.join ((linesC c).map (·.1)) [10] := by
  rw [print_join10]
  unfold Lib.trimSuffix
  rw [if_pos (by simp [Lib.hasSuffix])]
  simp
theorem split_print (c : Cfg) : linesOf (Lib.trimSuffix (printOf c) [10]) = (linesC c).map (·.1) := by
  rw [trim_print, linesOf_joined _ (bodies_ne c) (lines_end c)]

/-! ### laid twice -/
theorem twice_join (c : Cfg) (x : Bs) : Lib.join ((linesC c).map (·.1) ++ [x]) [10] = printOf c ++ x := by
  rw [join_snoc _ _ _ (bodies_ne c), print_join10]
theorem do_again {c : Cfg} (h : Fit5 c) : ∀ x ∈ linesC c, (doL (full c) x.2).1 = 12 := by
  intro x hx
  unfold linesC at hx
  rcases List.mem_append.1 hx with hx | hx
  · obtain ⟨a, ha, rfl⟩ := List.mem_map.1 hx
    show (doServer (full c) [textOf a]).1 = 12
    unfold doServer
    rw [nums_one (h.S a ha)]
    have e : addS (full c).c a = (12, c) := by
      unfold addS
      rw [if_pos (show a ∈ (full c).c.S from ha)]; rfl
    simp [e]
  · simp only [List.mem_cons, List.not_mem_nil, or_false] at hx
    rcases hx with rfl | rfl | rfl | rfl
    · show (doW (full c) wQuorum [textOf c.q]).1 = 12
      unfold doW
      rw [if_neg (by decide), if_pos rfl]
      unfold doOnce
      rw [nums_one h.q]; rfl
    · show (doW (full c) wPoll [textOf c.l, textOf c.m]).1 = 12
      unfold doW
      rw [if_neg (by decide), if_neg (by decide), if_pos rfl]
      unfold doOnce
      rw [nums_two h.l h.m]; rfl
    · show (doW (full c) wDelay [textOf c.d]).1 = 12
      unfold doW
      rw [if_neg (by decide), if_neg (by decide), if_neg (by decide), if_pos rfl]
      unfold doOnce
      rw [nums_one h.d]; rfl
    · show (doW (full c) wSlew [textOf c.s]).1 = 12
      unfold doW
      rw [if_neg (by decide), if_neg (by decide), if_neg (by decide), if_neg (by decide), if_pos rfl]
      unfold doOnce
      rw [nums_one h.s]; rfl
theorem parse_twice {c : Cfg} (h : checkOf c = 0) {x : Bs} (hx : x ∈ (linesC c).map (·.1)) : parseOf (Lib.join ((linesC c).map (·.1) ++ [x]) [10]) = (Cfg.none, c.S.length + 5, 12) := by
  obtain ⟨y, hy, rfl⟩ := List.mem_map.1 hx
  have hp := lines_pure (fit_of h) y hy
  rw [twice_join]
  exact behind_bad h hp.stop (by have := hp.len; omega) hp.whole (do_again (fit_of h) y hy) (by decide)

/-! ### one left out -/
def cut {α : Type} (k : Nat) (l : List α) : List α := l.take k ++ l.drop (k + 1)
theorem cut_left {α : Type} (k : Nat) (a b : List α) (h : k < a.length) : cut k (a ++ b) = cut k a ++ b := by
  unfold cut
  rw [List.take_append_of_le_length (by omega), List.drop_append_of_le_length (by omega)]; simp
theorem cut_right {α : Type} (k : Nat) (a b : List α) (h : a.length ≤ k) : cut k (a ++ b) = a ++ cut (k - a.length) b := by
  unfold cut
  rw [List.take_append, List.take_of_length_le h, List.drop_append, List.drop_of_length_le (by omega), show k + 1 - a.length = k - a.length + 1 by omega]; simp
theorem cut_map {α β : Type} (f : α → β) (k : Nat) (l : List α) : (cut k l).map f = cut k (l.map f) := by
  unfold cut; simp
theorem cut_sub {α : Type} (k : Nat) (l : List α) : (cut k l).Sublist l := by
  unfold cut
  have h1 : (l.drop (k + 1)).Sublist (l.drop k) := by
    rw [← List.drop_drop]; exact List.drop_sublist _ _
  have h2 := List.Sublist.append (List.Sublist.refl (l.take k)) h1
  rw [List.take_append_drop] at h2
  exact h2
theorem cut_len {α : Type} (k : Nat) (l : List α) (h : k < l.length) : (cut k l).length = l.length - 1 := by
  unfold cut; simp; omega
def lessS (c : Cfg) (k : Nat) : Cfg := { c with S := cut k c.S }
theorem lines_less (c : Cfg) (k : Nat) (h : k < c.S.length) : cut k (linesC c) = linesC (lessS c k) := by
  unfold linesC
  rw [cut_left _ _ _ (by simpa using h), ← cut_map]; rfl
theorem fit_less {c : Cfg} (h : Fit5 c) (k : Nat) : Fit5 (lessS c k) := ⟨fun a ha => h.S a ((cut_sub k c.S).subset ha), h.q, h.l, h.m, h.d, h.s⟩
theorem steps_any {c : Cfg} (hf : Fit5 c) (hl : c.S.length ≤ 16) (hn : c.S.Nodup) : steps St.none ((linesC c).map (·.2)) = some ⟨c, !c.S.isEmpty, true, true, true, true⟩ := by
  have e : (linesC c).map (·.2) = (c.S.map fun a => [wServer, textOf a]) ++ [[wQuorum, textOf c.q], [wPoll, textOf c.l, textOf c.m], [wDelay, textOf c.d], [wSlew, textOf c.s]] := by
    unfold linesC; simp [Function.comp_def]
  rw [e, steps_app _ _ _ _ (steps_servers c.S St.none hf.S hn (by simp [St.none, Cfg.none]) (by simp [St.none, Cfg.none]; exact hl)),
    steps_one (do_quorum hf.q rfl), steps_one (do_poll hf.l hf.m rfl), steps_one (do_delay hf.d rfl), steps_one (do_slew hf.s rfl)]
  simp [steps, St.none, Cfg.none]
theorem less_server {c : Cfg} (h : checkOf c = 0) {k : Nat} (hk : k < c.S.length) (h2 : 2 ≤ c.S.length) : parseOf (Lib.join (cut k ((linesC c).map (·.1))) [10]) = if c.q < c.S.length then (lessS c k, 0, 0) else (Cfg.none, 0, 3) := by
  obtain ⟨h1, hl, h3, h4, h5⟩ := check_zero h
  have hc := cut_len k c.S hk
  have hne : (lessS c k).S ≠ [] := fun e => by
    have : (cut k c.S).length = 0 := by rw [show cut k c.S = [] from e]; rfl
    omega
  have hle : (lessS c k).S.length ≤ 16 := by show (cut k c.S).length ≤ 16; omega
  have hnd : (lessS c k).S.Nodup := h4.sublist (cut_sub k c.S)
  rw [← cut_map, lines_less c k hk, parse_steps _ (by unfold linesC; simp) (by rw [lines_len]; omega) (lines_pure (fit_less (fit_of h) k)) (steps_any (fit_less (fit_of h) k) hle hnd)]
  have hck := check_parts (lessS c k) hne hle (fun a ha => h3 a ((cut_sub k c.S).subset ha)) hnd
  have hnum : numsOk (lessS c k) ↔ c.q < c.S.length := by
    obtain ⟨a1, a2⟩ := h5
    constructor
    · rintro ⟨⟨_, b⟩, _⟩
      replace b : c.q ≤ (cut k c.S).length := b
      omega
    · intro hq
      exact ⟨⟨a1.1, by show c.q ≤ (cut k c.S).length; omega⟩, a2⟩
  unfold fin
  have hie : (lessS c k).S.isEmpty = false := by simpa using hne
  simp only [hie, Bool.not_false, Bool.and_true, ↓reduceIte, hck]
  by_cases hq : c.q < c.S.length
  · rw [if_pos (hnum.2 hq), if_pos rfl, if_pos hq]
  · rw [if_neg (fun hn => hq (hnum.1 hn)), if_neg (by decide), if_neg hq]
theorem less_one {c : Cfg} (h : checkOf c = 0) {k : Nat} (hk : k < c.S.length) (h2 : c.S.length = 1) : parseOf (Lib.join (cut k ((linesC c).map (·.1))) [10]) = (Cfg.none, 0, 13) := by
  obtain ⟨h1, hl, h3, h4, h5⟩ := check_zero h
  have hc := cut_len k c.S hk
  have he : (lessS c k).S = [] := List.eq_nil_of_length_eq_zero (by show (cut k c.S).length = 0; omega)
  rw [← cut_map, lines_less c k hk, parse_steps _ (by unfold linesC; simp) (by rw [lines_len, he]; simp) (lines_pure (fit_less (fit_of h) k)) (steps_any (fit_less (fit_of h) k) (by rw [he]; simp) (by rw [he]; simp))]
  unfold fin
  simp [he]
theorem less_other {c : Cfg} (h : checkOf c = 0) {k : Nat} (hk : c.S.length ≤ k) (hk2 : k < c.S.length + 4) : parseOf (Lib.join (cut k ((linesC c).map (·.1))) [10]) = (Cfg.none, 0, 13) := by
  obtain ⟨h1, hl, h3, h4, h5⟩ := check_zero h
  have hf := fit_of h
  have hss := steps_servers c.S St.none hf.S h4 (by simp [St.none, Cfg.none]) (by simp [St.none, Cfg.none]; exact hl)
  have hpure : ∀ x ∈ cut k (linesC c), PureL x.1 x.2 := fun x hx => lines_pure hf x ((cut_sub k _).subset hx)
  have hlen : (cut k (linesC c)).length = c.S.length + 3 := by rw [cut_len k _ (by rw [lines_len]; omega), lines_len]; omega
  rw [← cut_map]
  obtain ⟨st, hst, hb⟩ : ∃ st, steps St.none ((cut k (linesC c)).map (·.2)) = some st ∧ (st.b0 && st.b1 && st.b2 && st.b3 && st.b4) = false := by
    have e : (linesC c).map (·.2) = (c.S.map fun a => [wServer, textOf a]) ++ [[wQuorum, textOf c.q], [wPoll, textOf c.l, textOf c.m], [wDelay, textOf c.d], [wSlew, textOf c.s]] := by
      unfold linesC; simp [Function.comp_def]
    rw [cut_map, e, cut_right _ _ _ (by simpa using hk), steps_app _ _ _ _ hss]
    have hj : k - (c.S.map fun a => [wServer, textOf a]).length < 4 := by simp; omega
    generalize k - (c.S.map fun a => [wServer, textOf a]).length = j at hj
    match j, hj with
    | 0, _ =>
      show ∃ st, steps _ [[wPoll, textOf c.l, textOf c.m], [wDelay, textOf c.d], [wSlew, textOf c.s]] = some st ∧ _
      rw [steps_one (do_poll hf.l hf.m rfl), steps_one (do_delay hf.d rfl), steps_one (do_slew hf.s rfl)]
      exact ⟨_, rfl, by simp [St.none]⟩
    | 1, _ =>
      show ∃ st, steps _ [[wQuorum, textOf c.q], [wDelay, textOf c.d], [wSlew, textOf c.s]] = some st ∧ _
      rw [steps_one (do_quorum hf.q rfl), steps_one (do_delay hf.d rfl), steps_one (do_slew hf.s rfl)]
      exact ⟨_, rfl, by simp [St.none]⟩
    | 2, _ =>
      show ∃ st, steps _ [[wQuorum, textOf c.q], [wPoll, textOf c.l, textOf c.m], [wSlew, textOf c.s]] = some st ∧ _
      rw [steps_one (do_quorum hf.q rfl), steps_one (do_poll hf.l hf.m rfl), steps_one (do_slew hf.s rfl)]
      exact ⟨_, rfl, by simp [St.none]⟩
    | 3, _ =>
      show ∃ st, steps _ [[wQuorum, textOf c.q], [wPoll, textOf c.l, textOf c.m], [wDelay, textOf c.d]] = some st ∧ _
      rw [steps_one (do_quorum hf.q rfl), steps_one (do_poll hf.l hf.m rfl), steps_one (do_delay hf.d rfl)]
      exact ⟨_, rfl, by simp [St.none]⟩
  rw [parse_steps _ (fun e => by rw [e] at hlen; simp at hlen) (by omega) hpure hst]
  unfold fin
  rw [hb, if_neg (by decide)]

/-! ### turned, with remarks between -/
def sepX : Bs := [32, 35, 32, 120, 10, 10]
def headX : Bs := [35, 32, 97, 32, 114, 101, 109, 97, 114, 107, 10, 10]
def phys : List (Bs × List Bs) → List (Bs × List Bs)
  | [] => []
  | [p] => [p]
  | p :: q :: r => (p.1 ++ [32, 35, 32, 120], p.2) :: ([], []) :: phys (q :: r)
theorem linesOf_phys : ∀ (ps : List (Bs × List Bs)), ps ≠ [] → (∀ x ∈ ps, (10 : UInt8) ∉ x.1) → linesOf (Lib.join (ps.map (·.1)) sepX) = (phys ps).map (·.1)
  | [p], _, h => by
    show linesOf (Lib.join [p.1] sepX) = [p.1]
    rw [Lib.join_one, linesOf_one _ (h p (by simp))]
  | p :: q :: r, _, h => by
    have ih := linesOf_phys (q :: r) (by simp) (fun x hx => h x (by simp [hx]))
    have hp := h p (by simp)
    rw [List.map_cons, List.map_cons, join_two, ← List.map_cons]
    have e : p.1 ++ sepX ++ Lib.join ((q :: r).map (·.1)) sepX = (p.1 ++ [32, 35, 32, 120]) ++ 10 :: ([] ++ 10 :: Lib.join ((q :: r).map (·.1)) sepX) := by simp [sepX]
    rw [e, linesOf_hit _ _ (by simp [hp]), linesOf_hit _ _ (by simp), ih]
    rfl
/-- A line that says ws. -/
def says (p : Bs) (ws : List Bs) : Prop := plainB (said p) = true ∧ wordsOf (said p) = ws
theorem wrd_blank_end : ∀ (l : Bs) (acc : List Bs) (cur : Bs), wrd acc cur (l ++ [32]) = wrd acc cur l
  | [], acc, cur => by
    show wrd (addW acc cur) [] [] = addW acc cur
    simp [wrd, addW]
  | c :: l, acc, cur => by
    rw [List.cons_append, wrd, wrd]
    split
    · exact wrd_blank_end l _ _
    · exact wrd_blank_end l _ _
theorem says_remark {p : Bs} {ws : List Bs} (h : PureL p ws) : says (p ++ [32, 35, 32, 120]) ws := by
  have e : p ++ [32, 35, 32, 120] = (p ++ [32]) ++ 35 :: [32, 120] := by simp
  unfold says
  rw [e, said_remark, said_none (p ++ [32]) (fun x hx => by
    rcases List.mem_append.1 hx with hx | hx
    · exact h.mark x hx
    · simp at hx; subst hx; decide)]
  refine ⟨?_, ?_⟩
  · have := h.plain
    unfold plainB at this ⊢
    rw [List.all_append, this]; rfl
  · unfold wordsOf
    rw [wrd_blank_end]
    exact h.words
theorem PureL.says {p : Bs} {ws : List Bs} (h : PureL p ws) : says p ws := ⟨h.whole.1, h.whole.2.1⟩
theorem says_phys : ∀ (ps : List (Bs × List Bs)), (∀ x ∈ ps, PureL x.1 x.2) → ∀ x ∈ phys ps, says x.1 x.2
  | [], _, x, hx => by simp [phys] at hx
  | [p], h, x, hx => by
    simp [phys] at hx; subst hx
    exact (h x (by simp)).says
  | p :: q :: r, h, x, hx => by
    rw [phys] at hx
    rcases List.mem_cons.1 hx with rfl | hx
    · exact says_remark (h p (by simp))
    · rcases List.mem_cons.1 hx with rfl | hx
      · exact ⟨rfl, rfl⟩
      · exact says_phys (q :: r) (fun y hy => h y (by simp [hy])) x hx
theorem phys_words : ∀ (ps : List (Bs × List Bs)), (∀ x ∈ ps, x.2 ≠ []) → ((phys ps).map (·.2)).filter (fun w => !w.isEmpty) = ps.map (·.2)
  | [], _ => rfl
  | [p], h => by
    have := h p (by simp)
    simp [phys, this]
  | p :: q :: r, h => by
    have hp := h p (by simp)
    have ih := phys_words (q :: r) (fun x hx => h x (by simp [hx]))
    rw [phys, List.map_cons, List.map_cons, List.filter_cons_of_pos (by simpa using hp), List.filter_cons_of_neg (by simp), ih]
    rfl
theorem linesFrom_says : ∀ (ps : List (Bs × List Bs)) (i : Nat) (acc : List Ln), (∀ x ∈ ps, says x.1 x.2) → ∃ M : List Ln, linesFrom i acc (ps.map (·.1)) = .good (acc ++ M) ∧ M.map (·.2) = (ps.map (·.2)).filter (fun w => !w.isEmpty)
  | [], i, acc, _ => ⟨[], by simp [linesFrom], rfl⟩
  | p :: ps, i, acc, h => by
    obtain ⟨a, b⟩ := h p (by simp)
    obtain ⟨M, h1, h2⟩ := linesFrom_says ps (i + 1) (addL acc i p.2) (fun x hx => h x (by simp [hx]))
    rw [List.map_cons, linesFrom, if_pos a, b, h1]
    by_cases hp : p.2 = []
    · refine ⟨M, by simp [addL, hp], ?_⟩
      rw [List.map_cons, List.filter_cons_of_neg (by simp [hp])]
      exact h2
    · refine ⟨(i + 1, p.2) :: M, by simp [addL, hp], ?_⟩
      rw [List.map_cons, List.map_cons, List.filter_cons_of_pos (by simpa using hp), h2]
theorem runL_words : ∀ (M : List Ln) (st st' : St), steps st (M.map (·.2)) = some st' → runL st M = fin st'
  | [], st, st', h => by simp [steps] at h; subst h; rfl
  | (n, ws) :: r, st, st', h => by
    rw [List.map_cons] at h
    unfold steps at h
    split at h
    · rename_i h0
      rw [runL, if_pos h0]
      exact runL_words r _ st' h
    · cases h
def turnC (c : Cfg) : List (Bs × List Bs) := (linesC c).drop c.S.length ++ (linesC c).take c.S.length
theorem turn_words (c : Cfg) : (turnC c).map (·.2) = [[wQuorum, textOf c.q], [wPoll, textOf c.l, textOf c.m], [wDelay, textOf c.d], [wSlew, textOf c.s]] ++ (c.S.map fun a => [wServer, textOf a]) := by
  unfold turnC linesC
  rw [List.drop_append_of_le_length (by simp), List.take_append_of_le_length (by simp), List.drop_of_length_le (by simp), List.take_of_length_le (by simp)]
  simp [Function.comp_def]
theorem parse_turned {c : Cfg} (h : checkOf c = 0) : parseOf (headX ++ Lib.join ((turnC c).map (·.1)) sepX) = (c, 0, 0) := by
  obtain ⟨h1, hl, h3, h4, h5⟩ := check_zero h
  have hf := fit_of h
  have hpure : ∀ x ∈ turnC c, PureL x.1 x.2 := fun x hx => by
    unfold turnC at hx
    rcases List.mem_append.1 hx with hx | hx
    · exact lines_pure hf x (List.mem_of_mem_drop hx)
    · exact lines_pure hf x (List.mem_of_mem_take hx)
  have hlen : (turnC c).length = c.S.length + 4 := by
    unfold turnC
    rw [List.length_append, List.length_drop, List.length_take, lines_len]; omega
  have hne : turnC c ≠ [] := fun e => by rw [e] at hlen; simp at hlen
  have hz := joined_len (turnC c) sepX (by decide) hpure
  have el : linesOf (headX ++ Lib.join ((turnC c).map (·.1)) sepX) = ((([35, 32, 97, 32, 114, 101, 109, 97, 114, 107], []) :: ([], []) :: phys (turnC c) : List (Bs × List Bs))).map (·.1) := by
    have e : headX ++ Lib.join ((turnC c).map (·.1)) sepX = [35, 32, 97, 32, 114, 101, 109, 97, 114, 107] ++ 10 :: ([] ++ 10 :: Lib.join ((turnC c).map (·.1)) sepX) := by simp [headX]
    rw [e, linesOf_hit _ _ (by decide), linesOf_hit _ _ (by simp), linesOf_phys _ hne (fun x hx => (hpure x hx).stop)]
    rfl
  obtain ⟨M, m1, m2⟩ := linesFrom_says (([35, 32, 97, 32, 114, 101, 109, 97, 114, 107], []) :: ([], []) :: phys (turnC c)) 0 [] (fun x hx => by
    rcases List.mem_cons.1 hx with rfl | hx
    · exact ⟨by decide, by decide⟩
    · rcases List.mem_cons.1 hx with rfl | hx
      · exact ⟨rfl, rfl⟩
      · exact says_phys _ hpure x hx)
  rw [← el, List.nil_append] at m1
  rw [List.map_cons, List.map_cons, List.filter_cons_of_neg (by simp), List.filter_cons_of_neg (by simp), phys_words _ (fun x hx => (hpure x hx).ne), turn_words] at m2
  have hst : steps St.none (M.map (·.2)) = some (full c) := by
    rw [m2, List.cons_append, List.cons_append, List.cons_append, List.cons_append, List.nil_append, steps_one (do_quorum hf.q rfl), steps_one (do_poll hf.l hf.m rfl), steps_one (do_delay hf.d rfl), steps_one (do_slew hf.s rfl),
      steps_servers c.S _ hf.S h4 (by simp [St.none, Cfg.none]) (by simp [St.none, Cfg.none]; exact hl)]
    have hie : c.S.isEmpty = false := by simpa using h1
    simp [full, St.none, Cfg.none, hie]
  rw [parse_of_good (by rw [List.length_append]; have : headX.length = 12 := rfl; omega) m1, runL_words M _ _ hst]
  unfold fin full
  simp [h]
end Go.Proofs.YtlbabhddjdhalaaDoor
