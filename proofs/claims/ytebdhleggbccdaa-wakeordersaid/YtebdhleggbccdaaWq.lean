/- Queues as plain lists: each key, when it is due, and by which Set it came; what is due by rising numbers, of the same one the one first that was set first. -/
import Derived.Maps.Ext
import Derived.Shelf.SlSortCmp.Insertion
import Derived.Lib.Small
import Derived.Sort.LotA
namespace Go.Proofs.Ytebdhleggbccdaa
open Go.Maps

/-- A key, when it is due, and by which Set. -/
abbrev En (κ : Type) := κ × Int × Int
section
variable {κ : Type}
def dropQ [DecidableEq κ] (k : κ) (L : List (En κ)) : List (En κ) := L.filter fun e => decide (e.1 ≠ k)
def putQ [DecidableEq κ] (k : κ) (a s : Int) (L : List (En κ)) : List (En κ) := dropQ k L ++ [(k, a, s)]
def dueF (h : Int) (L : List (En κ)) : List (En κ) := L.filter fun e => decide (e.2.1 ≤ h)
/-- One is ahead of another, or is it. -/
def leE (x y : En κ) : Bool := decide (x.2.1 < y.2.1) || (decide (x.2.1 = y.2.1) && decide (x.2.2 ≤ y.2.2))
def dueQ (h : Int) (L : List (En κ)) : List (En κ) := (dueF h L).mergeSort leE
structure Okq (s : Int) (L : List (En κ)) : Prop where
  keys : (L.map (·.1)).Nodup
  sets : L.Pairwise fun x y => x.2.2 < y.2.2
  top : ∀ e ∈ L, e.2.2 ≤ s
  ats : ∀ e ∈ L, (Lit.int .i64 e.2.1).wf = true
  low : ∀ e ∈ L, 0 ≤ e.2.2

theorem okq_nil (s : Int) : Okq s ([] : List (En κ)) := ⟨by simp, by simp, by simp, by simp, by simp⟩
theorem mem_drop [DecidableEq κ] {k : κ} {L : List (En κ)} {e : En κ} : e ∈ dropQ k L ↔ e ∈ L ∧ e.1 ≠ k := by simp [dropQ]
theorem Okq.drop [DecidableEq κ] {s : Int} {L : List (En κ)} (h : Okq s L) (k : κ) : Okq s (dropQ k L) :=
  ⟨List.Sublist.nodup (List.Sublist.map _ List.filter_sublist) h.keys, h.sets.filter _, fun e he => h.top e (mem_drop.1 he).1, fun e he => h.ats e (mem_drop.1 he).1, fun e he => h.low e (mem_drop.1 he).1⟩
theorem Okq.put [DecidableEq κ] {s : Int} {L : List (En κ)} (h : Okq s L) (hs : 0 ≤ s) (k : κ) {a : Int} (ha : (Lit.int .i64 a).wf = true) : Okq (s + 1) (putQ k a (s + 1) L) := by
  have d := h.drop k
  unfold putQ
  refine ⟨?_, ?_, ?_, ?_, ?_⟩
  · rw [List.map_append, List.nodup_append]
    refine ⟨d.keys, by simp, fun x hx y hy e => ?_⟩
    simp at hy
    obtain ⟨z, hz, rfl⟩ := List.mem_map.1 hx
    exact (mem_drop.1 hz).2 (e.trans hy)
  · rw [List.pairwise_append]
    refine ⟨d.sets, by simp, fun x hx y hy => ?_⟩
    simp at hy
    subst hy
    have := d.top x hx
    show x.2.2 < s + 1
    omega
  all_goals
    intro e he
    rcases List.mem_append.1 he with he | he
  · have := d.top e he; omega
  · simp at he; subst he; exact Int.le_refl _
  · exact d.ats e he
  · simp at he; subst he; exact ha
  · exact d.low e he
  · simp at he; subst he; show 0 ≤ s + 1; omega
theorem Okq.nodup {s : Int} {L : List (En κ)} (h : Okq s L) : L.Nodup := List.Pairwise.of_map (·.1) (fun _ _ hne e => hne (by rw [e])) h.keys
/-- Two of one key are one. -/
theorem Okq.one {s : Int} {L : List (En κ)} (h : Okq s L) {x y : En κ} (hx : x ∈ L) (hy : y ∈ L) (e : x.1 = y.1) : x = y := by
  have hk := h.keys
  clear h
  induction L with
  | nil => cases hx
  | cons z r ih =>
    rw [List.map_cons, List.nodup_cons] at hk
    rcases List.mem_cons.1 hx with rfl | hx' <;> rcases List.mem_cons.1 hy with rfl | hy'
    · rfl
    · exact absurd (List.mem_map.2 ⟨y, hy', e.symm⟩ : x.1 ∈ r.map (·.1)) hk.1
    · exact absurd (List.mem_map.2 ⟨x, hx', e⟩ : y.1 ∈ r.map (·.1)) hk.1
    · exact ih hx' hy' hk.2
/-- Two of one Set are one. -/
theorem Okq.set {s : Int} {L : List (En κ)} (h : Okq s L) {x y : En κ} (hx : x ∈ L) (hy : y ∈ L) (e : x.2.2 = y.2.2) : x = y := by
  have hk := h.sets
  clear h
  induction L with
  | nil => cases hx
  | cons z r ih =>
    obtain ⟨h1, h2⟩ := List.pairwise_cons.1 hk
    rcases List.mem_cons.1 hx with rfl | hx' <;> rcases List.mem_cons.1 hy with rfl | hy'
    · rfl
    · have := h1 y hy'; omega
    · have := h1 x hx'; omega
    · exact ih hx' hy' h2

/-! What is due. -/
theorem leE_trans (a b c : En κ) (h1 : leE a b = true) (h2 : leE b c = true) : leE a c = true := by
  simp only [leE, Bool.or_eq_true, Bool.and_eq_true, decide_eq_true_eq] at *; omega
theorem leE_total (a b : En κ) : (leE a b || leE b a) = true := by
  simp only [leE, Bool.or_eq_true, Bool.and_eq_true, decide_eq_true_eq] at *; omega
theorem mem_dueF {h : Int} {L : List (En κ)} {e : En κ} : e ∈ dueF h L ↔ e ∈ L ∧ e.2.1 ≤ h := by simp [dueF]
theorem mem_dueQ {h : Int} {L : List (En κ)} {e : En κ} : e ∈ dueQ h L ↔ e ∈ L ∧ e.2.1 ≤ h := by
  unfold dueQ; rw [(List.mergeSort_perm _ _).mem_iff, mem_dueF]
theorem dueQ_sorted (h : Int) (L : List (En κ)) : (dueQ h L).Pairwise fun x y => leE x y = true := List.pairwise_mergeSort leE_trans leE_total _
/-- Whatever holds just those, in order, is it. -/
theorem due_unique {s h : Int} {L l : List (En κ)} (k : Okq s L) (hp : l.Perm (dueF h L)) (hs : l.Pairwise fun x y => leE x y = true) : l = dueQ h L := by
  refine List.Perm.eq_of_pairwise (le := fun x y => leE x y = true) (fun a b ha hb h1 h2 => ?_) hs (dueQ_sorted h L) (hp.trans (List.mergeSort_perm _ _).symm)
  have ma := (mem_dueF.1 (hp.mem_iff.1 ha)).1
  have mb := (mem_dueQ.1 hb).1
  refine k.set ma mb ?_
  simp only [leE, Bool.or_eq_true, Bool.and_eq_true, decide_eq_true_eq] at h1 h2
  omega
theorem length_dueQ (h : Int) (L : List (En κ)) : (dueQ h L).length ≤ L.length := by
  unfold dueQ dueF; rw [List.length_mergeSort]; exact List.length_filter_le _ _

/-! The comparison. -/
def cmpE (x y : En κ) : Int := if Lib.compareInt x.2.1 y.2.1 = 0 then Lib.compareInt x.2.2 y.2.2 else Lib.compareInt x.2.1 y.2.1
theorem cmpE_lt (x y : En κ) : ltOf cmpE x y = !leE y x := by
  unfold ltOf cmpE Lib.compareInt leE
  by_cases h1 : x.2.1 < y.2.1
  · simp [h1]; omega
  · by_cases h2 : y.2.1 < x.2.1
    · simp [h1, h2]
    · have h3 : x.2.1 = y.2.1 := by omega
      by_cases h4 : x.2.2 < y.2.2
      · simp [h3, h4]
      · by_cases h5 : y.2.2 < x.2.2
        · simp [h3, h4, h5]; omega
        · simp [h3, h4, h5]; omega
theorem swo_cmpE : Sort.SWO (ltOf (cmpE (κ := κ))) where
  irrefl x := by rw [cmpE_lt]; simp [leE]
  trans x y z h1 h2 := by
    rw [cmpE_lt] at *
    simp only [leE, Bool.not_eq_true', Bool.or_eq_false_iff, Bool.and_eq_false_imp, decide_eq_false_iff_not, decide_eq_true_eq] at *
    omega
  ntrans x y z h1 h2 := by
    rw [cmpE_lt] at *
    simp only [leE, Bool.not_eq_false', Bool.or_eq_true, Bool.and_eq_true, decide_eq_true_eq] at *
    omega

/-! When it is next. -/
def IsNext (L : List (En κ)) (n : Int) : Prop := (∃ e ∈ L, e.2.1 = n) ∧ ∀ e ∈ L, n ≤ e.2.1
theorem IsNext.one {L : List (En κ)} {n m : Int} (h : IsNext L n) (k : IsNext L m) : n = m := by
  obtain ⟨⟨x, hx, rfl⟩, h2⟩ := h
  obtain ⟨⟨y, hy, rfl⟩, k2⟩ := k
  have := h2 y hy
  have := k2 x hx
  omega
/-- When a key is due. -/
def atQ [DecidableEq κ] (k : κ) (L : List (En κ)) : Option Int := (L.find? fun e => decide (e.1 = k)).map (·.2.1)
theorem atQ_none [DecidableEq κ] {k : κ} {L : List (En κ)} (h : ∀ e ∈ L, e.1 ≠ k) : atQ k L = none := by
  unfold atQ
  rw [List.find?_eq_none.2 fun e he => by simpa using h e he]
  rfl
theorem atQ_some [DecidableEq κ] {s : Int} {k : κ} {L : List (En κ)} (h : Okq s L) {e : En κ} (he : e ∈ L) (hk : e.1 = k) : atQ k L = some e.2.1 := by
  unfold atQ
  cases hf : L.find? fun e => decide (e.1 = k) with
  | none => exact absurd hk (by simpa using List.find?_eq_none.1 hf e he)
  | some x =>
    have h1 : x.1 = k := by simpa using List.find?_some hf
    rw [h.one (List.mem_of_find?_eq_some hf) he (h1.trans hk.symm)]
    rfl
theorem drop_of_not [DecidableEq κ] {k : κ} {L : List (En κ)} (h : ∀ e ∈ L, e.1 ≠ k) : dropQ k L = L := by
  unfold dropQ; exact List.filter_eq_self.2 fun e he => by simpa using h e he
theorem length_drop_in [DecidableEq κ] {s : Int} {k : κ} {L : List (En κ)} (h : Okq s L) {e : En κ} (he : e ∈ L) (hk : e.1 = k) : (dropQ k L).length + 1 = L.length := by
  have hk' := h.keys
  clear h
  induction L with
  | nil => cases he
  | cons z r ih =>
    rw [List.map_cons, List.nodup_cons] at hk'
    by_cases hz : z.1 = k
    · have : dropQ k r = r := drop_of_not fun x hx e => hk'.1 (List.mem_map.2 ⟨x, hx, e.trans hz.symm⟩)
      show (dropQ k (z :: r)).length + 1 = _
      unfold dropQ at this ⊢
      rw [List.filter_cons, if_neg (by simpa using hz), this]
      rfl
    · have he' : e ∈ r := by
        rcases List.mem_cons.1 he with rfl | he
        · exact absurd hk hz
        · exact he
      have := ih he' hk'.2
      unfold dropQ at this ⊢
      rw [List.filter_cons, if_pos (by simpa using hz), List.length_cons, List.length_cons, this]

/-! A map as read that holds a queue. -/
section
variable {H : Type} (KL : κ → Lit)
def dT (a s : Int) : DataW H := .agg [.lit (.int .i64 a), .lit (.int .i64 s)]
structure RepQ (D : DataW H) (L : List (En κ)) : Prop where
  at' : ∀ e ∈ L, ∀ z, D.atKey (KL e.1) z = dT e.2.1 e.2.2
  has : ∀ kl, Maps.has D kl = true → ∃ e ∈ L, kl = KL e.1
  size : Maps.size D = L.length
variable {KL} {D : DataW H} {L : List (En κ)} {s : Int}
theorem RepQ.has_of (h : RepQ KL D L) {e : En κ} (he : e ∈ L) : Maps.has D (KL e.1) = true := has_true_of_atKey (h.at' e he)
theorem repQ_nil : RepQ KL (.map [] : DataW H) ([] : List (En κ)) := ⟨by simp, fun kl h => (by cases h), rfl⟩
theorem RepQ.has_iff (h : RepQ KL D L) (inj : ∀ x y, KL x = KL y → x = y) (k : κ) : Maps.has D (KL k) = true ↔ ∃ e ∈ L, e.1 = k := by
  constructor
  · intro hh
    obtain ⟨e, he, hk⟩ := h.has _ hh
    exact ⟨e, he, (inj _ _ hk).symm⟩
  · rintro ⟨e, he, rfl⟩
    exact h.has_of he
theorem RepQ.not_has (h : RepQ KL D L) (inj : ∀ x y, KL x = KL y → x = y) {k : κ} (hn : ∀ e ∈ L, e.1 ≠ k) : Maps.has D (KL k) = false := by
  cases hh : Maps.has D (KL k)
  · rfl
  · obtain ⟨e, he, hk⟩ := (h.has_iff inj k).1 hh
    exact absurd hk (hn e he)
theorem RepQ.drop [DecidableEq κ] (h : RepQ KL D L) (inj : ∀ x y, KL x = KL y → x = y) (ok : Okq s L) (ht : Tidy D) (k : κ) : RepQ KL (D.del (KL k)) (dropQ k L) := by
  refine ⟨fun e he z => ?_, fun kl hk => ?_, ?_⟩
  · obtain ⟨h1, h2⟩ := mem_drop.1 he
    rw [atKey_del_other (fun e' => h2 (inj _ _ e'))]
    exact h.at' e h1 z
  · by_cases e : kl = KL k
    · subst e; rw [has_del_same] at hk; cases hk
    · rw [has_del_other e] at hk
      obtain ⟨x, hx, rfl⟩ := h.has _ hk
      exact ⟨x, mem_drop.2 ⟨hx, fun e' => e (by rw [e'])⟩, rfl⟩
  · have hs := size_del (k := KL k) ht
    by_cases hin : ∃ e ∈ L, e.1 = k
    · rw [(h.has_iff inj k).2 hin, if_pos rfl, h.size] at hs
      obtain ⟨e, he, hk⟩ := hin
      have := length_drop_in ok he hk
      omega
    · have hn : ∀ e ∈ L, e.1 ≠ k := fun e he hk => hin ⟨e, he, hk⟩
      rw [h.not_has inj hn, h.size] at hs
      rw [drop_of_not hn]
      simpa using hs
theorem RepQ.put [DecidableEq κ] (h : RepQ KL D L) (inj : ∀ x y, KL x = KL y → x = y) (ok : Okq s L) (ht : Tidy D) {k : κ} (hk : WideAt.IsKeyLit (KL k)) (a t : Int) : RepQ KL (D.put (KL k) (dT a t)) (putQ k a t L) := by
  unfold putQ
  refine ⟨fun e he z => ?_, fun kl hh => ?_, ?_⟩
  · rcases List.mem_append.1 he with he | he
    · obtain ⟨h1, h2⟩ := mem_drop.1 he
      rw [atKey_put_other (fun e' => h2 (inj _ _ e'))]
      exact h.at' e h1 z
    · simp at he; subst he
      exact atKey_put_same ht.isMap hk _ _
  · by_cases e : kl = KL k
    · exact ⟨(k, a, t), by simp, e⟩
    · rw [has_put_other e] at hh
      obtain ⟨x, hx, rfl⟩ := h.has _ hh
      exact ⟨x, List.mem_append.2 (.inl (mem_drop.2 ⟨hx, fun e' => e (by rw [e'])⟩)), rfl⟩
  · rw [size_put ht, List.length_append, List.length_singleton]
    by_cases hin : ∃ e ∈ L, e.1 = k
    · rw [(h.has_iff inj k).2 hin, if_pos rfl, h.size]
      obtain ⟨e, he, hk⟩ := hin
      exact (length_drop_in ok he hk).symm
    · have hn : ∀ e ∈ L, e.1 ≠ k := fun e he hk => hin ⟨e, he, hk⟩
      rw [h.not_has inj hn, h.size, drop_of_not hn]
      rfl
/-- The entry that has come. -/
theorem RepQ.come (h : RepQ KL D L) {kl : Lit} {y : DataW H} (hat : ∀ z, D.atKey kl z = y) : ∃ e ∈ L, kl = KL e.1 ∧ y = dT e.2.1 e.2.2 := by
  obtain ⟨e, he, hk⟩ := h.has kl (has_true_of_atKey hat)
  refine ⟨e, he, hk, ?_⟩
  rw [← hat .nil, hk]
  exact h.at' e he _
/-- What was gathered of those whose numbers aren't above h. -/
def Coll (KL : κ → Lit) (h : Int) (L : List (En κ)) (left : Lit → Bool) (es : List (En κ)) : Prop := es.Nodup ∧ ∀ e, e ∈ es ↔ (e ∈ L ∧ left (KL e.1) = false ∧ e.2.1 ≤ h)
theorem coll_start (r : RepQ KL D L) (h : Int) : Coll KL h L (Maps.has D) [] := ⟨by simp, fun e => ⟨fun he => (by cases he), fun ⟨h1, h2, _⟩ => by rw [r.has_of h1] at h2; cases h2⟩⟩
theorem Coll.step {h : Int} {left : Lit → Bool} {es : List (En κ)} (c : Coll KL h L left es) (inj : ∀ x y, KL x = KL y → x = y) (ok : Okq s L) {e : En κ} (he : e ∈ L) (hl : left (KL e.1) = true) (hk : WideAt.IsKeyLit (KL e.1)) (hle : e.2.1 ≤ h) :
    Coll KL h L (fun z => left z && !z.sameKey (KL e.1)) (es ++ [e]) := by
  have hnew : e ∉ es := fun hx => by have := ((c.2 e).1 hx).2.1; rw [hl] at this; cases this
  refine ⟨List.nodup_append.2 ⟨c.1, by simp, fun a ha b hb => by simp at hb; subst hb; exact fun e' => hnew (e' ▸ ha)⟩, fun x => ?_⟩
  by_cases hx : x = e
  · subst hx; simp [he, hle, WideAt.sameKey_self hk]
  · rw [List.mem_append, c.2 x]
    constructor
    · rintro (⟨h1, h2, h3⟩ | h1)
      · exact ⟨h1, by simp [h2], h3⟩
      · simp at h1; exact absurd h1 hx
    · rintro ⟨h1, h2, h3⟩
      have : (KL x.1).sameKey (KL e.1) = false := sameKey_ne fun e' => hx (ok.one h1 he (inj _ _ e'))
      simp [this] at h2
      exact .inl ⟨h1, h2, h3⟩
theorem Coll.skip {h : Int} {left : Lit → Bool} {es : List (En κ)} (c : Coll KL h L left es) (inj : ∀ x y, KL x = KL y → x = y) (ok : Okq s L) {e : En κ} (he : e ∈ L) (hle : ¬ e.2.1 ≤ h) :
    Coll KL h L (fun z => left z && !z.sameKey (KL e.1)) es := by
  refine ⟨c.1, fun x => ?_⟩
  rw [c.2 x]
  by_cases hx : x = e
  · subst hx; simp [hle]
  · constructor
    · rintro ⟨h1, h2, h3⟩
      exact ⟨h1, by simp [h2], h3⟩
    · rintro ⟨h1, h2, h3⟩
      have : (KL x.1).sameKey (KL e.1) = false := sameKey_ne fun e' => hx (ok.one h1 he (inj _ _ e'))
      simp [this] at h2
      exact ⟨h1, h2, h3⟩
theorem Coll.done {h : Int} {left : Lit → Bool} {es : List (En κ)} (c : Coll KL h L left es) (ok : Okq s L) (hl : ∀ kl, left kl = false) : es.Perm (dueF h L) := by
  refine (List.perm_ext_iff_of_nodup c.1 (ok.nodup.filter _)).2 fun e => ?_
  show _ ↔ e ∈ dueF h L
  rw [c.2 e, mem_dueF, hl]
  simp
/-- The least so far. -/
def Least (KL : κ → Lit) (L : List (En κ)) (left : Lit → Bool) (f : Int) : Prop := (∀ e ∈ L, left (KL e.1) = false → f ≤ e.2.1) ∧ (f = 9223372036854775807 ∨ ∃ e ∈ L, e.2.1 = f)
theorem least_start (r : RepQ KL D L) : Least KL L (Maps.has D) 9223372036854775807 := ⟨fun e he h2 => (by rw [r.has_of he] at h2; cases h2), .inl rfl⟩
theorem Least.step {left : Lit → Bool} {f : Int} (c : Least KL L left f) (inj : ∀ x y, KL x = KL y → x = y) (ok : Okq s L) {e : En κ} (he : e ∈ L) :
    Least KL L (fun z => left z && !z.sameKey (KL e.1)) (min f e.2.1) := by
  refine ⟨fun x hx hl => ?_, ?_⟩
  · by_cases hxe : x = e
    · subst hxe; exact Int.min_le_right _ _
    · have : (KL x.1).sameKey (KL e.1) = false := sameKey_ne fun e' => hxe (ok.one hx he (inj _ _ e'))
      simp [this] at hl
      have := c.1 x hx hl
      omega
  · rcases Int.le_total f e.2.1 with hle | hle
    · rw [Int.min_eq_left hle]; exact c.2
    · rw [Int.min_eq_right hle]; exact .inr ⟨e, he, rfl⟩
theorem Least.done {left : Lit → Bool} {f : Int} (c : Least KL L left f) (ok : Okq s L) (hl : ∀ kl, left kl = false) (hne : L ≠ []) : IsNext L f := by
  refine ⟨?_, fun e he => c.1 e he (hl _)⟩
  rcases c.2 with rfl | h
  · obtain ⟨e, r, rfl⟩ := List.exists_cons_of_ne_nil hne
    have h1 := c.1 e (by simp) (hl _)
    have h2 := ok.ats e (by simp)
    refine ⟨e, by simp, ?_⟩
    simp [Lit.wf, IntKind.min, IntKind.max, IntKind.signed, IntKind.bits] at h2
    omega
  · exact h
end
end
end Go.Proofs.Ytebdhleggbccdaa
