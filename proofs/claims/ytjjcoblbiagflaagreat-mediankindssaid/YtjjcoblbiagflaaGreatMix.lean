/- The one in the middle of floats is that of the numbers; a row of the call's own stays while another grows. -/
import Derived.Test.YtjjcoblbiagflaaGreatSrtF
import Derived.Test.YtjjcoblbiagflaaGreatSrtU
import Derived.Test.YtjjcoblbiagflaaGreatApp
import Derived.Test.YtjjcoblbiagflaaGreatSpr
namespace Go.Proofs.YtjjcoblbiagflaaGreat
open Go.RowKit

theorem sorted_list {D : Array Int16} {n : Nat} (hn : D.size = n) (s : Sort.SortedIn kf.lt 0 n D) : (D.toList.map Int16.toInt).Pairwise (fun a b => leI a b = true) := by
  rw [List.pairwise_map, List.pairwise_iff_getElem]
  intro i j hi hj hij
  have h := s i j (Nat.zero_le _) hij (by simpa [hn] using hj)
  simp only [Array.length_toList] at hi hj
  rw [getElem!_pos D i hi, getElem!_pos D j hj] at h
  simp only [kf.lt, decide_eq_false_iff_not] at h
  simp only [leI, decide_eq_true_eq, Array.getElem_toList]
  omega
theorem mid_float {xs : List Int16} {D : Array Int16} {n k : Nat} (hn : xs.length = n) (p : Sort.PermIn 0 n xs.toArray D) (s : Sort.SortedIn kf.lt 0 n D) (hk : k < n) :
    (D[k]!).toInt = ((xs.map Int16.toInt).mergeSort leI).getD k 0 := by
  have hD : D.size = n := by rw [p.1]; simpa using hn
  have hp := p.2.2
  rw [show D.extract 0 n = D by rw [← hD]; simp, show xs.toArray.extract 0 n = xs.toArray by rw [← hn]; simp] at hp
  have e := srt_unique totI (sorted_list hD s) (hp.map Int16.toInt)
  simp only at e
  rw [← e, List.getD_eq_getElem?_getD, List.getElem?_map]
  rw [getElem!_pos D k (by omega), Array.getElem?_toList, Array.getElem?_eq_getElem (by omega)]
  rfl
theorem own_keep {w w' : World} {base e n : Nat} {v : Value} {xs : List Value} {r : Option Nat} (h : w.ownsRow base e 1 v n xs) (g : w.grownBy w' r) (hne : ∀ b, v.ownBlock = some b → r ≠ some b) : w'.ownsRow base e 1 v n xs := by
  refine ⟨h.1, ?_⟩
  rcases h.2 with h2 | ⟨p, cap, cur, rfl, hb, hg, rest⟩
  · exact .inl h2
  · refine .inr ⟨p, cap, cur, rfl, hb, ?_, rest⟩
    rw [g.block p (heap_lt hg) (fun e => hne p rfl e.symm)]
    exact hg
theorem own_block_lt {w : World} {base e n b : Nat} {v : Value} {xs : List Value} (h : w.ownsRow base e 1 v n xs) (hb : v.ownBlock = some b) : b < w.heap.size := by
  rcases h.2 with ⟨rfl, _⟩ | ⟨p, cap, cur, rfl, _, hg, _⟩
  · cases hb
  · cases hb; exact heap_lt hg
end Go.Proofs.YtjjcoblbiagflaaGreat
