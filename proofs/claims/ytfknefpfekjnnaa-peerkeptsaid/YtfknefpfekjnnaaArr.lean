/- An argument that is an array of integers by value, of whatever length: opened to its numbers, and shut again. No program in this text. -/
import Derived.ChangeSame
import Derived.OpenShut
import Derived.DataShut
namespace Go.Proofs.Ytfknefpfekjnnaa
open Go.ChangeShapes Go.WideShapes

section
variable {H : Type} {enc : TypeId × Value → H} {P : Program} {w : World} {base : Nat} {spare : Nat → Bool} {held : Bool}

/-- The number of a cell. -/
def numOf : Value → Int
  | .int _ n => n
  | _ => 0

theorem open_ints_array {r : Reach} {b0 n : Nat} {t e : TypeId} {k : IntKind} {v : Value} {d : DataW H} {ps : List MemPlace} (ht : P.underlying t = some (.array n e)) (he : P.underlying e = some (.int k))
    (hce : P.cellsOf e = 1) (hct : P.cellsOf t = n) (hval : Value.okWide P w r b0 t v) (hd : DataW.Trod enc P w base spare held t v d ps) :
    ∃ xs : List Int, xs.length = n ∧ v = .agg (xs.map (Value.int k)).toArray ∧ d = .agg (xs.map fun x => .lit (.int k x)) ∧ ps = [] ∧ ∀ x ∈ xs, (Lit.int k x).wf = true := by
  obtain ⟨cs, rfl, hsz, _⟩ : ∃ cs, v = .agg cs ∧ cs.size = P.cellsOf t ∧ Row.okWide P w r b0 t cs := by
    simpa [Value.okWide, ht] using hval
  obtain ⟨l⟩ := cs
  obtain ⟨fuel, hf⟩ := hd
  obtain ⟨ys, m, rfl, hx, hlen, hyl, hy⟩ := DataW.trod_array ht hf
  simp only [Value.cells] at hlen hy
  have hl : l.length = n := by rw [← hct]; simpa using hsz
  have key : ∀ i (hi : i < n), ∃ x, l[i]? = some (.int k x) ∧ ys[i]? = some (.lit (.int k x), []) ∧ (Lit.int k x).wf = true := by
    intro i hi
    have h1 := hy i hi
    rw [hce, Nat.mul_one] at h1
    have h2 : (l.drop i).take 1 = [l[i]'(by omega)] := by rw [List.drop_eq_getElem_cons (by omega)]; rfl
    rw [h2] at h1
    have hys : ys[i]? = some (ys[i]'(by omega)) := List.getElem?_eq_getElem (by omega)
    rw [hys] at h1
    obtain ⟨x, hc, hx, hw⟩ := DataW.trod_int he h1
    refine ⟨x, ?_, ?_, hw⟩
    · rw [List.getElem?_eq_getElem (by omega)]; simpa using hc
    · rw [hys, hx]
  have el : l = (l.map numOf).map (Value.int k) := by
    apply List.ext_getElem?
    intro i
    rcases Nat.lt_or_ge i n with hi | hi
    · obtain ⟨x, hc, _, _⟩ := key i hi
      simp [hc, numOf]
    · rw [List.getElem?_eq_none (by omega), List.getElem?_eq_none (by simp; omega)]
  have ey : ys = (l.map numOf).map fun x => (DataW.lit (.int k x), []) := by
    apply List.ext_getElem?
    intro i
    rcases Nat.lt_or_ge i n with hi | hi
    · obtain ⟨x, hc, hys, _⟩ := key i hi
      rw [hys]; simp [hc, numOf]
    · rw [List.getElem?_eq_none (by omega), List.getElem?_eq_none (by simp; omega)]
  simp only [Prod.mk.injEq] at hx
  refine ⟨l.map numOf, by simpa using hl, ?_, ?_, ?_, ?_⟩
  · rw [← el]
  · rw [hx.1, ey]; simp
  · rw [hx.2, ey]; simp
  · intro x hxm
    obtain ⟨i, hi, e⟩ := List.getElem_of_mem hxm
    obtain ⟨x', hc, _, hw⟩ := key i (by simpa [hl] using hi)
    simp only [List.length_map] at hi
    rw [List.getElem?_eq_getElem hi] at hc
    simp only [Option.some.injEq] at hc
    rw [List.getElem_map, hc] at e
    simp only [numOf] at e
    rw [← e]; exact hw

theorem shut_ints_array {n : Nat} {t e : TypeId} {k : IntKind} (xs : List Int) (ht : P.underlying t = some (.array n e)) (he : P.underlying e = some (.int k))
    (hce : P.cellsOf e = 1) (hct : P.cellsOf t = n) (hl : xs.length = n) (hw : ∀ x ∈ xs, (Lit.int k x).wf = true) :
    DataW.Trod enc P w base spare held t (.agg (xs.map (Value.int k)).toArray) (.agg (xs.map fun x => .lit (.int k x))) [] := by
  refine ⟨2, ?_⟩
  have hm : ((List.range n).mapM fun i => DataW.trod enc P w base spare held 1 e (((xs.map (Value.int k)).drop (i * P.cellsOf e)).take (P.cellsOf e))) = some (xs.map fun x => (DataW.lit (.int k x), [])) := by
    refine mapM_some_of_get _ _ (by simp [hl]) ?_
    intro i j hij
    have hi : i < n := by
      rcases Nat.lt_or_ge i n with h | h
      · exact h
      · rw [List.getElem?_eq_none (by simpa using h)] at hij; simp at hij
    rw [List.getElem?_range hi] at hij
    simp only [Option.some.injEq] at hij
    subst hij
    rw [hce, Nat.mul_one, List.drop_eq_getElem_cons (by simp; omega)]
    have hwi := hw (xs[i]'(by omega)) (List.getElem_mem _)
    simp [DataW.trod, he, hwi, hl, hi]
  show DataW.trod enc P w base spare held 2 t (xs.map (Value.int k)) = _
  unfold DataW.trod
  rw [ht]
  dsimp only
  rw [if_pos (by simp [hct, hl])]
  rw [hm]
  simp

end
end Go.Proofs.Ytfknefpfekjnnaa
