/- What the laws ask of a config's text, in plain lists. -/
import Derived.Test.YtlbabhddjdhalaaDoorPure
namespace Go.Proofs.YtlbabhddjdhalaaDoor
open Go.RowKit Go.Proofs.Lx

/-! ### what is parsed -/
theorem fin_cases (st : St) : ((fin st).2.2 = 0 ∧ checkOf (fin st).1 = 0) ∨ ((fin st).2.2 ≠ 0 ∧ (fin st).1 = Cfg.none) := by
  unfold fin
  split
  · split
    · rename_i h; exact .inl ⟨rfl, h⟩
    · rename_i h; exact .inr ⟨h, rfl⟩
  · exact .inr ⟨by decide, rfl⟩
theorem runL_cases : ∀ (L : List Ln) (st : St), ((runL st L).2.2 = 0 ∧ checkOf (runL st L).1 = 0) ∨ ((runL st L).2.2 ≠ 0 ∧ (runL st L).1 = Cfg.none)
  | [], st => fin_cases st
  | (n, ws) :: r, st => by
    unfold runL
    split
    · exact runL_cases r _
    · rename_i h; exact .inr ⟨h, rfl⟩
theorem parse_cases (t : Bs) : ((parseOf t).2.2 = 0 ∧ checkOf (parseOf t).1 = 0) ∨ ((parseOf t).2.2 ≠ 0 ∧ (parseOf t).1 = Cfg.none) := by
  unfold parseOf
  split
  · exact runL_cases _ _
  · rename_i h; exact .inr ⟨h, rfl⟩

/-! ### what may be, told by its parts -/
theorem srvs_zero_of : ∀ (S seen : List Int), (∀ a ∈ S, 1 ≤ a ∧ a ≤ 65535) → S.Nodup → (∀ a ∈ S, a ∉ seen) → srvs seen S = 0
  | [], _, _, _, _ => rfl
  | a :: S, seen, h1, h2, h3 => by
    have hn := List.nodup_cons.1 h2
    unfold srvs
    have ha := h1 a (by simp)
    rw [if_neg (by omega), if_neg (h3 a (by simp))]
    refine srvs_zero_of S _ (fun x hx => h1 x (by simp [hx])) hn.2 (fun x hx hs => ?_)
    simp only [List.mem_append, List.mem_singleton] at hs
    rcases hs with hs | rfl
    · exact h3 x (by simp [hx]) hs
    · exact hn.1 hx
theorem check_parts (c : Cfg) (h0 : c.S ≠ []) (h1 : c.S.length ≤ 16) (h2 : ∀ a ∈ c.S, 1 ≤ a ∧ a ≤ 65535) (h3 : c.S.Nodup) : checkOf c = if numsOk c then 0 else 3 := by
  have h := srvs_zero_of c.S [] h2 h3 (by simp)
  unfold checkOf
  rw [if_neg h0, if_neg (by omega), h, if_neg (by simp)]
theorem check_small {c : Cfg} (h : checkOf c = 0) : c.S.length ≤ 16 ∧ (∀ x ∈ c.S, i64 x) ∧ i64 c.q ∧ i64 c.l ∧ i64 c.m ∧ i64 c.d ∧ i64 c.s := by
  obtain ⟨h1, h2, h3, h4, h5⟩ := check_zero h
  have hf := fit_of h
  have k : ∀ {x : Int}, fits x → i64 x := fun hx => ⟨by have := hx.1; omega, by have := hx.2; omega⟩
  exact ⟨h2, fun x hx => k (hf.S x hx), k hf.q, k hf.l, k hf.m, k hf.d, k hf.s⟩

/-! ### a line behind a config's -/
theorem parse_of_good {t : Bs} {L : List Ln} (hl : t.length ≤ 65536) (h : res t = .good L) : parseOf t = runL St.none L := by
  unfold parseOf
  rw [out_good t (by omega) h, if_pos rfl]
theorem parse_of_wrong {t : Bs} {k : Nat} (hl : t.length ≤ 65536) (h : res t = .wrong k) : parseOf t = (Cfg.none, k, 6) := by
  unfold parseOf
  rw [out_wrong t (by omega) h, if_neg (by simp)]
theorem run_config {c : Cfg} (h : checkOf c = 0) (R : List Ln) : runL St.none (numL 0 ((linesC c).map (·.2)) ++ R) = runL (full c) R := runL_steps _ _ _ 0 R (steps_config h)
theorem lines_len (c : Cfg) : (linesC c).length = c.S.length + 4 := by unfold linesC; simp
theorem print_count (c : Cfg) : (printOf c).count 10 = c.S.length + 4 := by
  have h := linesOf_len (printOf c)
  have e := print_join c []
  rw [List.append_nil] at e
  rw [e, linesOf_join _ _ (lines_end c)] at h
  have : (linesOf []).length = 1 := rfl
  rw [List.length_append, List.length_map, lines_len, this] at h
  rw [e]
  omega
theorem behind_len {c : Cfg} (h : checkOf c = 0) {x : Bs} (hx : x.length ≤ 1000) : (printOf c ++ x).length ≤ 65536 := by
  obtain ⟨_, h2, _⟩ := check_zero h
  have := print_len c h2
  simp; omega
theorem behind_any {c : Cfg} (h : checkOf c = 0) {x : Bs} (hx : (10 : UInt8) ∉ x) (hl : x.length ≤ 1000) : (parseOf (printOf c ++ x)).2.2 = 0 ∨ (parseOf (printOf c ++ x)).2.1 = c.S.length + 5 ∨ (parseOf (printOf c ++ x)).2.1 = 0 := by
  have hr := res_behind h x
  rw [linesOf_one x hx, linesFrom, lines_len] at hr
  have hz := behind_len h hl
  split at hr
  · rw [linesFrom, addL] at hr
    rw [parse_of_good hz hr]
    have hfin : (fin (full c)).2.1 = 0 ∧ (fin (full c)).2.2 = 0 := by
      unfold fin full; simp [h]
    split
    · have := run_config h []
      rw [List.append_nil] at this
      rw [this]
      exact .inl hfin.2
    · rw [run_config h, runL]
      split
      · rename_i hd
        rcases fin_cases (doL (full c) (wordsOf (said x))).2 with h1 | h1
        · exact .inl h1.1
        · refine .inr (.inr ?_)
          show (fin _).2.1 = 0
          unfold fin
          split
          · split <;> rfl
          · rfl
      · exact .inr (.inl (by show c.S.length + 4 + 1 = _; omega))
  · rw [parse_of_wrong hz hr]
    exact .inr (.inl rfl)
theorem behind_bad {c : Cfg} (h : checkOf c = 0) {x : Bs} (hx : (10 : UInt8) ∉ x) (hl : x.length ≤ 1000) {ws : List Bs} (hw : whole x ws) {k : Nat} (hd : (doL (full c) ws).1 = k) (hk : k ≠ 0) : parseOf (printOf c ++ x) = (Cfg.none, c.S.length + 5, k) := by
  have hr := res_behind h x
  obtain ⟨w1, w2, w3⟩ := hw
  rw [linesOf_one x hx, linesFrom, lines_len, if_pos w1, w2, linesFrom, addL, if_neg w3] at hr
  rw [parse_of_good (behind_len h hl) hr, run_config h, runL, hd, if_neg hk]
/-- The five of ConfFirst. -/
def fiveB : List Bs := [[119, 104, 97, 116, 32, 55], [113, 117, 111, 114, 117, 109, 32, 49], [115, 101, 114, 118, 101, 114], [115, 108, 101, 119, 32, 49, 32, 50], [100, 101, 108, 97, 121, 32, 120]]
theorem five_bad {c : Cfg} (h : checkOf c = 0) : ∀ x ∈ fiveB, ∃ k, k ≠ 0 ∧ parseOf (printOf c ++ x) = (Cfg.none, c.S.length + 5, k) := by
  intro x hx
  unfold fiveB at hx
  simp only [List.mem_cons, List.not_mem_nil, or_false] at hx
  rcases hx with rfl | rfl | rfl | rfl | rfl
  · exact ⟨10, by decide, behind_bad h (by decide) (by decide) (ws := [[119, 104, 97, 116], [55]]) ⟨by decide, by decide, by decide⟩ rfl (by decide)⟩
  · exact ⟨12, by decide, behind_bad h (by decide) (by decide) (ws := [wQuorum, [49]]) ⟨by decide, by decide, by decide⟩ rfl (by decide)⟩
  · exact ⟨6, by decide, behind_bad h (by decide) (by decide) (ws := [wServer]) ⟨by decide, by decide, by decide⟩ rfl (by decide)⟩
  · exact ⟨6, by decide, behind_bad h (by decide) (by decide) (ws := [wSlew, [49], [50]]) ⟨by decide, by decide, by decide⟩ rfl (by decide)⟩
  · exact ⟨6, by decide, behind_bad h (by decide) (by decide) (ws := [wDelay, [120]]) ⟨by decide, by decide, by decide⟩ rfl (by decide)⟩

/-! ### turned about -/
def rev (c : Cfg) : Cfg := { c with S := c.S.reverse }
theorem check_rev {c : Cfg} (h : checkOf c = 0) : checkOf (rev c) = 0 := by
  obtain ⟨h1, h2, h3, h4, h5⟩ := check_zero h
  rw [check_parts (rev c) (by simpa [rev] using h1) (by simpa [rev] using h2) (fun a ha => h3 a (by simpa [rev] using ha)) ((List.reverse_perm c.S).nodup_iff.2 h4)]
  rw [if_pos]
  simpa [numsOk, rev] using h5
theorem rev_eq {c : Cfg} (h : checkOf c = 0) : (rev c = c) ↔ c.S.length = 1 := by
  obtain ⟨h1, _, _, h4, _⟩ := check_zero h
  obtain ⟨S, q, l, m, d, s⟩ := c
  simp only [rev, Cfg.mk.injEq, and_true]
  simp only at h1 h4
  constructor
  · intro e
    match S, h1, h4, e with
    | [a], _, _, _ => rfl
    | a :: b :: r, _, h4, e =>
      exfalso
      have hl : (a :: b :: r).getLast? = some a := by
        rw [← List.head?_reverse, e]; rfl
      have : a ∈ b :: r := by
        rw [List.getLast?_cons_cons] at hl
        exact List.mem_of_getLast? hl
      exact (List.nodup_cons.1 h4).1 this
  · intro e
    match S, e with
    | [a], _ => rfl
end Go.Proofs.YtlbabhddjdhalaaDoor
