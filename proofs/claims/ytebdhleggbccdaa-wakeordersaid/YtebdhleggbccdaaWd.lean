/- What is due, each laid behind those that aren't later. -/
import Derived.Test.YtebdhleggbccdaaWq
import Derived.Test.YtebdhleggbccdaaRf
namespace Go.Proofs.Ytebdhleggbccdaa

abbrev Ent := En ByteArray
abbrev onOf (e : Ent) : On := (e.1, e.2.1)
/-- So far: those of the first so many that are due, in order. -/
structure Sofar (lim : Int) (L : List Ent) (i : Nat) (s : List Ent) : Prop where
  perm : s.Perm (dueF lim (L.take i))
  srt : s.Pairwise fun x y => leE x y = true
theorem sofar_nil (lim : Int) (L : List Ent) : Sofar lim L 0 [] := ⟨by simp [dueF], by simp⟩
theorem Sofar.skip {lim : Int} {L : List Ent} {i : Nat} {s : List Ent} (h : Sofar lim L i s) {x : Ent} (hx : L[i]? = some x) (hle : ¬ x.2.1 ≤ lim) : Sofar lim L (i + 1) s := by
  refine ⟨?_, h.srt⟩
  rw [take_snoc_l hx]
  have : dueF lim (L.take i ++ [x]) = dueF lim (L.take i) := by simp [dueF, hle]
  rw [this]
  exact h.perm
theorem Sofar.mem {lim : Int} {L : List Ent} {i : Nat} {s : List Ent} (h : Sofar lim L i s) {y : Ent} (hy : y ∈ s) : ∃ j, j < i ∧ L[j]? = some y := by
  have := (mem_dueF.1 (h.perm.mem_iff.1 hy)).1
  obtain ⟨j, hj, e⟩ := List.getElem_of_mem this
  rw [List.length_take] at hj
  refine ⟨j, by omega, ?_⟩
  rw [List.getElem_take] at e
  rw [List.getElem?_eq_some_iff]
  exact ⟨by omega, e⟩
theorem Sofar.length {lim : Int} {L : List Ent} {i : Nat} {s : List Ent} (h : Sofar lim L i s) : s.length ≤ i := by
  rw [h.perm.length_eq]
  exact Nat.le_trans (List.length_filter_le _ _) (List.length_take_le _ _)
theorem Sofar.put {n lim : Int} {L : List Ent} {i k : Nat} {s : List Ent} (h : Sofar lim L i s) (ok : Okq n L) {x : Ent} (hx : L[i]? = some x) (hle : x.2.1 ≤ lim)
    (h1 : ∀ j y, j < k → s[j]? = some y → y.2.1 ≤ x.2.1) (h2 : s.length ≤ k ∨ ∃ y, s[k]? = some y ∧ ¬ y.2.1 ≤ x.2.1) : Sofar lim L (i + 1) (s.take k ++ [x] ++ s.drop k) := by
  have sets : ∀ y ∈ s, y.2.2 < x.2.2 := fun y hy => by
    obtain ⟨j, hj, hy⟩ := h.mem hy
    have := List.pairwise_iff_getElem.1 ok.sets
    obtain ⟨a1, a2⟩ := List.getElem?_eq_some_iff.1 hy
    obtain ⟨b1, b2⟩ := List.getElem?_eq_some_iff.1 hx
    have := this j i a1 b1 hj
    rw [a2, b2] at this
    exact this
  refine ⟨?_, ?_⟩
  · rw [take_snoc_l hx]
    have e : dueF lim (L.take i ++ [x]) = dueF lim (L.take i) ++ [x] := by simp [dueF, hle]
    rw [e, List.append_assoc]
    refine (List.perm_middle.trans ?_).trans (List.perm_append_singleton _ _).symm
    show (x :: (s.take k ++ s.drop k)).Perm _
    rw [List.take_append_drop]
    exact h.perm.cons x
  · rw [List.append_assoc, List.pairwise_append]
    have hd := h.srt.drop (i := k)
    refine ⟨h.srt.take, ?_, fun a ha c hc => ?_⟩
    · rw [List.singleton_append, List.pairwise_cons]
      refine ⟨fun c hc => ?_, hd⟩
      rcases h2 with h2 | ⟨y, hy, hyx⟩
      · rw [List.drop_eq_nil_of_le h2] at hc; cases hc
      · obtain ⟨q1, q2⟩ := List.getElem?_eq_some_iff.1 hy
        rw [List.drop_eq_getElem_cons q1, q2] at hc hd
        have hy2 : y.2.1 ≤ c.2.1 := by
          rcases List.mem_cons.1 hc with rfl | hc
          · exact Int.le_refl _
          · have := (List.pairwise_cons.1 hd).1 c hc
            simp only [leE, Bool.or_eq_true, Bool.and_eq_true, decide_eq_true_eq] at this
            omega
        simp only [leE, Bool.or_eq_true, Bool.and_eq_true, decide_eq_true_eq]
        omega
    · rw [List.singleton_append] at hc
      rcases List.mem_cons.1 hc with rfl | hc
      · have hs := sets a (List.mem_of_mem_take ha)
        obtain ⟨j, hj, e⟩ := List.getElem_of_mem ha
        rw [List.length_take] at hj
        rw [List.getElem_take] at e
        have := h1 j a (by omega) (by rw [List.getElem?_eq_some_iff]; exact ⟨by omega, e⟩)
        simp only [leE, Bool.or_eq_true, Bool.and_eq_true, decide_eq_true_eq]
        omega
      · have := h.srt
        rw [← List.take_append_drop k s, List.pairwise_append] at this
        exact this.2.2 a ha c hc
theorem Sofar.done {n lim : Int} {L : List Ent} {i : Nat} {s : List Ent} (h : Sofar lim L i s) (ok : Okq n L) (hi : L.length ≤ i) : s = dueQ lim L := by
  have := h.perm
  rw [List.take_of_length_le hi] at this
  exact due_unique ok this h.srt
end Go.Proofs.Ytebdhleggbccdaa
