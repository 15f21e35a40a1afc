/- A set of keys beside a queue; queues of which each key is due at itself. -/
import Derived.Test.YtebdhleggbccdaaWq
namespace Go.Proofs.Ytebdhleggbccdaa
open Go.Maps

section
variable {κ : Type} {H : Type} {KL : κ → Lit} {D : DataW H} {L : List (En κ)} {s : Int}
/-- A map's keys are the queue's. -/
structure SeenOf (KL : κ → Lit) (D : DataW H) (L : List (En κ)) : Prop where
  all : ∀ e ∈ L, has D (KL e.1) = true
  own : ∀ kl, has D kl = true → ∃ e ∈ L, kl = KL e.1
  size : size D = L.length
theorem seenOf_nil : SeenOf KL (.map [] : DataW H) ([] : List (En κ)) := ⟨by simp, fun kl h => (by cases h), rfl⟩
theorem mem_put_key [DecidableEq κ] {k : κ} {a t : Int} {x : κ} : (∃ e ∈ putQ k a t L, e.1 = x) ↔ (x = k ∨ ∃ e ∈ L, e.1 = x) := by
  unfold putQ
  constructor
  · rintro ⟨e, he, rfl⟩
    rcases List.mem_append.1 he with he | he
    · exact .inr ⟨e, (mem_drop.1 he).1, rfl⟩
    · simp at he; subst he; exact .inl rfl
  · rintro (rfl | ⟨e, he, rfl⟩)
    · exact ⟨(x, a, t), by simp, rfl⟩
    · by_cases hk : e.1 = k
      · exact ⟨(k, a, t), by simp, hk.symm⟩
      · exact ⟨e, List.mem_append.2 (.inl (mem_drop.2 ⟨he, hk⟩)), rfl⟩
theorem SeenOf.put [DecidableEq κ] (h : SeenOf KL D L) (inj : ∀ x y, KL x = KL y → x = y) (ok : Okq s L) (ht : Tidy D) {k : κ} (hk : WideAt.IsKeyLit (KL k)) (a t : Int) (d : DataW H) : SeenOf KL (D.put (KL k) d) (putQ k a t L) := by
  refine ⟨fun e he => ?_, fun kl hh => ?_, ?_⟩
  · by_cases e' : KL e.1 = KL k
    · rw [e']; exact has_put_same ht.isMap hk d
    · rw [has_put_other e']
      rcases mem_put_key.1 ⟨e, he, rfl⟩ with h1 | ⟨x, hx, hx'⟩
      · exact absurd (by rw [h1]) e'
      · rw [← hx']; exact h.all x hx
  · by_cases e : kl = KL k
    · exact ⟨(k, a, t), by simp [putQ], e⟩
    · rw [has_put_other e] at hh
      obtain ⟨x, hx, rfl⟩ := h.own _ hh
      obtain ⟨y, hy, hy'⟩ := mem_put_key (k := k) (a := a) (t := t).2 (.inr ⟨x, hx, rfl⟩)
      exact ⟨y, hy, by rw [hy']⟩
  · rw [size_put ht]
    unfold putQ
    rw [List.length_append, List.length_singleton]
    by_cases hin : ∃ e ∈ L, e.1 = k
    · obtain ⟨e, he, rfl⟩ := hin
      rw [h.all e he, if_pos rfl, h.size]
      exact (length_drop_in ok he rfl).symm
    · have hn : ∀ e ∈ L, e.1 ≠ k := fun e he hk => hin ⟨e, he, hk⟩
      have : has D (KL k) = false := by
        cases hh : has D (KL k)
        · rfl
        · obtain ⟨e, he, hke⟩ := h.own _ hh
          exact absurd (inj _ _ hke).symm (hn e he)
      rw [this, h.size, drop_of_not hn]
      rfl
theorem SeenOf.again [DecidableEq κ] (h : SeenOf KL D L) (ok : Okq s L) {k : κ} (hin : ∃ e ∈ L, e.1 = k) (a t : Int) : SeenOf KL D (putQ k a t L) := by
  obtain ⟨e0, he0, hk0⟩ := hin
  refine ⟨fun e he => ?_, fun kl hh => ?_, ?_⟩
  · rcases mem_put_key.1 ⟨e, he, rfl⟩ with h1 | ⟨x, hx, hx'⟩
    · rw [h1, ← hk0]; exact h.all e0 he0
    · rw [← hx']; exact h.all x hx
  · obtain ⟨x, hx, rfl⟩ := h.own _ hh
    obtain ⟨y, hy, hy'⟩ := mem_put_key (k := k) (a := a) (t := t).2 (.inr ⟨x, hx, rfl⟩)
    exact ⟨y, hy, by rw [hy']⟩
  · unfold putQ
    rw [h.size, List.length_append, List.length_singleton]
    exact (length_drop_in ok he0 hk0).symm
end

/-! Keys that are due at themselves. -/
/-- Each key is due at itself, and is one of those. -/
def Selves (L : List (En Int)) (xs : List Int) : Prop := (∀ e ∈ L, e.2.1 = e.1 ∧ e.1 ∈ xs) ∧ ∀ x ∈ xs, ∃ e ∈ L, e.1 = x
theorem selves_nil : Selves [] [] := ⟨by simp, by simp⟩
theorem Selves.put {L : List (En Int)} {xs ys : List Int} (h : Selves L xs) {x t : Int} (hy : ∀ y, y ∈ ys ↔ y ∈ xs ∨ y = x) : Selves (putQ x x t L) ys := by
  refine ⟨fun e he => ?_, fun y hyy => ?_⟩
  · unfold putQ at he
    rcases List.mem_append.1 he with he | he
    · obtain ⟨h1, h2⟩ := h.1 e (mem_drop.1 he).1
      exact ⟨h1, (hy _).2 (.inl h2)⟩
    · simp at he; subst he; exact ⟨rfl, (hy _).2 (.inr rfl)⟩
  · rw [mem_put_key]
    rcases (hy y).1 hyy with h1 | h1
    · exact .inr (h.2 y h1)
    · exact .inl h1
/-- What was set at another number, and then at itself. -/
theorem Selves.twice {L : List (En Int)} {xs ys : List Int} (h : Selves L xs) {x a t t' : Int} (hy : ∀ y, y ∈ ys ↔ y ∈ xs ∨ y = x) : Selves (putQ x x t (putQ x a t' L)) ys := by
  have e : putQ x x t (putQ x a t' L) = putQ x x t L := by
    unfold putQ
    congr 1
    unfold dropQ
    rw [List.filter_append, List.filter_filter]
    simp
  rw [e]
  exact h.put hy
theorem Selves.len {s : Int} {L : List (En Int)} {xs : List Int} (h : Selves L xs) (ok : Okq s L) {s' : Int} {L' : List (En Int)} {ys : List Int} (h' : Selves L' ys) (ok' : Okq s' L') (hy : ∀ y, y ∈ ys ↔ y ∈ xs) : L.length = L'.length := by
  have hp : (L.map (·.1)).Perm (L'.map (·.1)) := by
    refine (List.perm_ext_iff_of_nodup ok.keys ok'.keys).2 fun x => ?_
    constructor
    · intro hx
      obtain ⟨e, he, rfl⟩ := List.mem_map.1 hx
      obtain ⟨e', he', hx'⟩ := h'.2 _ ((hy _).2 (h.1 e he).2)
      exact List.mem_map.2 ⟨e', he', hx'⟩
    · intro hx
      obtain ⟨e, he, rfl⟩ := List.mem_map.1 hx
      obtain ⟨e', he', hx'⟩ := h.2 _ ((hy _).1 (h'.1 e he).2)
      exact List.mem_map.2 ⟨e', he', hx'⟩
  simpa using hp.length_eq
/-- What is due of both is the same. -/
theorem Selves.due {s : Int} {L : List (En Int)} {xs : List Int} (h : Selves L xs) (ok : Okq s L) {s' : Int} {L' : List (En Int)} {ys : List Int} (h' : Selves L' ys) (ok' : Okq s' L') (hy : ∀ y, y ∈ ys ↔ y ∈ xs) (lim : Int) :
    (dueQ lim L).map (·.1) = (dueQ lim L').map (·.1) := by
  have nd : ∀ {t : Int} {K : List (En Int)}, Okq t K → ((dueQ lim K).map (·.1)).Nodup := fun {t K} o => by
    have hp : ((dueQ lim K).map (·.1)).Perm ((dueF lim K).map (·.1)) := (List.mergeSort_perm _ _).map _
    exact hp.nodup_iff.2 (List.Sublist.nodup (List.Sublist.map _ List.filter_sublist) o.keys)
  have srt : ∀ {K : List (En Int)} {zs : List Int}, Selves K zs → ((dueQ lim K).map (·.1)).Pairwise (· ≤ ·) := fun {K zs} o => by
    rw [List.pairwise_map]
    refine (dueQ_sorted lim K).imp_of_mem fun {a b} ha hb hab => ?_
    have h1 := (o.1 a (mem_dueQ.1 ha).1).1
    have h2 := (o.1 b (mem_dueQ.1 hb).1).1
    simp only [leE, Bool.or_eq_true, Bool.and_eq_true, decide_eq_true_eq] at hab
    omega
  refine List.Perm.eq_of_pairwise (le := (· ≤ ·)) (fun a b _ _ h1 h2 => by omega) (srt h) (srt h') ((List.perm_ext_iff_of_nodup (nd ok) (nd ok')).2 fun x => ?_)
  have key : ∀ {K : List (En Int)} {zs : List Int}, Selves K zs → (x ∈ (dueQ lim K).map (·.1) ↔ x ∈ zs ∧ x ≤ lim) := fun {K zs} o => by
    rw [List.mem_map]
    constructor
    · rintro ⟨e, he, rfl⟩
      obtain ⟨h1, h2⟩ := mem_dueQ.1 he
      obtain ⟨h3, h4⟩ := o.1 e h1
      exact ⟨h4, by omega⟩
    · rintro ⟨h1, h2⟩
      obtain ⟨e, he, rfl⟩ := o.2 x h1
      exact ⟨e, mem_dueQ.2 ⟨he, by rw [(o.1 e he).1]; exact h2⟩, rfl⟩
  rw [key h, key h', hy]
end Go.Proofs.Ytebdhleggbccdaa
