/- How many lines and words there are at most. -/
import Derived.Test.YtlbabhddjdhalaaDoorLx
namespace Go.Proofs.Lx

theorem linesFrom_sz (K : Nat) : ∀ (p : List Bs) (i : Nat) (acc L : List Ln), (∀ m ∈ acc, m.2.length ≤ K) → (∀ q ∈ p, q.length + 1 ≤ K) → linesFrom i acc p = .good L → L.length ≤ acc.length + p.length ∧ ∀ m ∈ L, m.2.length ≤ K
  | [], i, acc, L, ha, _, h => by
    simp [linesFrom] at h; subst h
    exact ⟨by simp, ha⟩
  | q :: p, i, acc, L, ha, hp, h => by
    rw [linesFrom] at h
    split at h
    · have hq := hp q (by simp)
      have hw : (wordsOf (said q)).length ≤ K := by
        have h1 := wrd_sz (said q) [] []
        have h2 := said_sz q
        unfold wordsOf
        simp at h1; omega
      obtain ⟨r1, r2⟩ := linesFrom_sz K p (i + 1) _ L (by
        unfold addL
        split
        · exact ha
        · intro m hm
          simp at hm
          rcases hm with hm | rfl
          · exact ha m hm
          · exact hw) (fun x hx => hp x (by simp [hx])) h
      have := addL_len acc i (wordsOf (said q))
      exact ⟨by simp; omega, r2⟩
    · cases h
theorem out_sz (t : Bs) : (outOf t).1.length ≤ 1000000 ∧ ∀ (j m : Nat) (ws : List Bs), (outOf t).1[j]? = some (m, ws) → ws.length ≤ 1000000 := by
  unfold outOf
  split
  · exact ⟨by simp, fun j m ws h => by simp at h⟩
  · rename_i hl
    cases hr : res t with
    | wrong k => exact ⟨by simp [Res.out], fun j m ws h => by simp [Res.out] at h⟩
    | good L =>
      obtain ⟨r1, r2⟩ := linesFrom_sz 65537 (linesOf t) 0 [] L (by simp) (fun q hq => by have := linesOf_sz t q hq; omega) hr
      have h3 := linesOf_len t
      have h4 := List.count_le_length (a := (10 : UInt8)) (l := t)
      refine ⟨by simp [Res.out] at r1 ⊢; omega, fun j m ws h => ?_⟩
      have := r2 (m, ws) (List.mem_of_getElem? h)
      simp at this; omega
end Go.Proofs.Lx
