/- Join of words, and what is contained: the library's contracts at our words. -/
import Derived.Test.YtlbabhddjdhalaaDoorSizes
import Derived.Test.YtlbabhddjdhalaaDoorRlines
import Derived.Test.YtlbabhddjdhalaaDoorSizes
import Derived.Lib.QuietBelow
namespace Go.Proofs.Lx
open Go

def tot (ws : List Bs) : Nat := (ws.map (·.length)).sum
theorem tot_addW (acc : List Bs) (cur : Bs) : tot (addW acc cur) = tot acc + cur.length := by
  unfold addW tot
  split
  · rename_i h; subst h; simp
  · simp
theorem tot_wrd : ∀ (l : Bs) (acc : List Bs) (cur : Bs), tot (wrd acc cur l) ≤ tot acc + cur.length + l.length
  | [], acc, cur => by unfold wrd; rw [tot_addW]; simp
  | c :: l, acc, cur => by
    unfold wrd
    split
    · have := tot_wrd l (addW acc cur) []; rw [tot_addW] at this; simp at this ⊢; omega
    · have := tot_wrd l acc (cur ++ [c]); simp at this ⊢; omega
theorem join_len (ws : List Bs) : (Lib.join ws [32]).length ≤ tot ws + ws.length := by
  cases ws with
  | nil => simp [Lib.join_nil]
  | cons x r =>
    rw [Lib.join_cons]
    have : (Lib.joinTail [32] r).length = tot r + r.length := by
      unfold Lib.joinTail tot
      induction r with
      | nil => rfl
      | cons y r ih => simp at ih ⊢; omega
    simp [tot] at this ⊢; omega
theorem linesFrom_tot (K : Nat) : ∀ (p : List Bs) (i : Nat) (acc L : List Ln), (∀ m ∈ acc, tot m.2 ≤ K) → (∀ q ∈ p, q.length ≤ K) → linesFrom i acc p = .good L → ∀ m ∈ L, tot m.2 ≤ K
  | [], i, acc, L, ha, _, h => by
    simp [linesFrom] at h; subst h
    exact ha
  | q :: p, i, acc, L, ha, hp, h => by
    rw [linesFrom] at h
    split at h
    · have hq := hp q (by simp)
      have hw : tot (wordsOf (said q)) ≤ K := by
        have h1 := tot_wrd (said q) [] []
        have h2 := said_sz q
        unfold wordsOf
        simp [tot] at h1 ⊢; omega
      exact linesFrom_tot K p (i + 1) _ L (by
        unfold addL
        split
        · exact ha
        · intro m hm
          simp at hm
          rcases hm with hm | rfl
          · exact ha m hm
          · exact hw) (fun x hx => hp x (by simp [hx])) h
    · cases h
theorem out_join (t : Bs) : ∀ (j m : Nat) (ws : List Bs), (outOf t).1[j]? = some (m, ws) → (Lib.join ws [32]).length ≤ 1000000 := by
  intro j m ws h
  have h1 := (out_sz t).2
  unfold outOf at h
  split at h
  · simp at h
  · rename_i hl
    cases hr : res t with
    | wrong k => rw [hr] at h; simp [Res.out] at h
    | good L =>
      rw [hr] at h
      have h2 := linesFrom_tot 65536 (linesOf t) 0 [] L (by simp) (fun q hq => by have := linesOf_sz t q hq; omega) hr (m, ws) (List.mem_of_getElem? h)
      obtain ⟨_, r2⟩ := linesFrom_sz 65537 (linesOf t) 0 [] L (by simp) (fun q hq => by have := linesOf_sz t q hq; omega) hr
      have h3 := r2 (m, ws) (List.mem_of_getElem? h)
      have := join_len ws
      simp at h2 h3; omega
theorem contains_iff : ∀ (l : Bs) (c : UInt8), 0 ≤ Lib.indexByte l c ↔ c ∈ l
  | [], c => by simp [Lib.indexByte]
  | b :: l, c => by
    have ih := contains_iff l c
    have hge := Lib.indexByte_ge l c
    unfold Lib.indexByte
    by_cases h : b = c
    · subst h; simp
    · rw [if_neg (by simpa using h)]
      split
      · rename_i h1
        have h1 : Lib.indexByte l c = -1 := by simpa using h1
        simp [Ne.symm h]
        rw [← ih, h1]; decide
      · rename_i h1
        have h1 : Lib.indexByte l c ≠ -1 := by simpa using h1
        simp [Ne.symm h]
        rw [← ih]; omega
end Go.Proofs.Lx
namespace Go.Proofs.YtlbabhddjdhalaaDoor
open Go.RowKit Go.Proofs.Lx

theorem cont_any (s : ByteArray) (w : World) :
    Calls Tryd.prog 22 #[.string s, .string ⟨#[10]⟩] w fun e w' => e = .returned (.bool (decide ((10 : UInt8) ∈ s.data.toList))) ∧ w = w' := by
  refine (Tryd.strings_Contains_one s 10 w).mono ?_
  rintro e w' ⟨rfl, rfl⟩
  refine ⟨?_, rfl⟩
  congr 2
  rw [Bool.eq_iff_iff, decide_eq_true_iff, decide_eq_true_iff, contains_iff]
theorem join_any (v : Value) (ws : List Bs) (b : Nat) (w : World) (hv : Strs w b v ws) (h1 : ws.length ≤ 1000000) (h2 : (Lib.join ws [32]).length ≤ 1000000) :
    Calls Tryd.prog 21 #[v, .string ⟨#[32]⟩] w fun e w' => e = .returned (.string ⟨(Lib.join ws [32]).toArray⟩) ∧ Below w.heap.size w w' := by
  by_cases h0 : 0 < ws.length
  · obtain ⟨g, c, rfl, hc, hg, hcell⟩ := hv.at_ h0
    have e : ((ws.map fun l => (⟨l.toArray⟩ : ByteArray)).map (·.data.toList)) = ws := by
      rw [List.map_map]
      conv => rhs; rw [← List.map_id ws]
      exact List.map_congr_left fun l _ => by simp
    have := Tryd.strings_Join g 0 c (ws.map fun l => ⟨l.toArray⟩) ⟨#[32]⟩ w (fun j x hx => by
      rw [List.getElem?_map] at hx
      obtain ⟨l, hl, rfl⟩ := Option.map_eq_some_iff.1 hx
      rw [Nat.zero_add]
      exact hcell j l hl) hg (by simp; omega) (by simp; omega) (by rw [e]; exact Nat.le_trans h2 (by decide))
    rw [e, List.length_map] at this
    exact this
  · obtain rfl : ws = [] := List.eq_nil_of_length_eq_zero (by omega)
    obtain ⟨A, c, rfl, _⟩ := hv.len
    refine (Tryd.strings_Join_none A c ⟨#[32]⟩ w).mono ?_
    rintro e w' ⟨rfl, rfl⟩
    exact ⟨rfl, Below.refl _ _⟩
end Go.Proofs.YtlbabhddjdhalaaDoor
