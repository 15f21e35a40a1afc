/- What stamps of near times tell: numbers alone. -/
import Derived.Test.YtanoaelgaabmgaaMake
namespace Go.Proofs.Ytanoaelgaabmgaa
open Go.RowKit

/-- A remainder with the sign of what is divided. -/
theorem rem_bd (a k : Int) (hk : 0 < k) : ∃ r, a.tmod k = r ∧ -k < r ∧ r < k := by
  refine ⟨_, rfl, ?_, ?_⟩
  · by_cases h : a < 0
    · rw [tmod_neg' a k h]; have := Int.emod_lt_of_pos (-a) hk; omega
    · rw [Int.tmod_eq_emod_of_nonneg (by omega)]; have := Int.emod_nonneg a (show k ≠ 0 by omega); omega
  · by_cases h : a < 0
    · rw [tmod_neg' a k h]; have := Int.emod_nonneg (-a) (show k ≠ 0 by omega); omega
    · rw [Int.tmod_eq_emod_of_nonneg (by omega)]; exact Int.emod_lt_of_pos a hk

/-- The way between the stamps of two times that are near: as far as the times are apart, or 1 less. -/
theorem dif_near (x y : Int) (h1 : -1152921504606846976 ≤ x - y) (h2 : x - y ≤ 1152921504606846976) : x - y - 1 ≤ nsf (way (frm x) (frm y)) ∧ nsf (way (frm x) (frm y)) ≤ x - y := by
  have e : way (frm x) (frm y) = x * 4294967296 / 1000000000 - y * 4294967296 / 1000000000 := by
    unfold way frm; omega
  rw [e]; unfold nsf; omega

theorem offs_near (t0 t1 y x : Int) (h1 : -1152921504606846976 ≤ y - t0) (h2 : y - t0 ≤ 1152921504606846976) (h3 : -1152921504606846976 ≤ x - t1) (h4 : x - t1 ≤ 1152921504606846976) :
    ((y - t0) + (x - t1) - 2) / 2 ≤ offs t0 t1 (frm y) (frm x) ∧ offs t0 t1 (frm y) (frm x) ≤ ((y - t0) + (x - t1)) / 2 := by
  obtain ⟨a1, a2⟩ := dif_near y t0 h1 h2
  obtain ⟨b1, b2⟩ := dif_near x t1 h3 h4
  unfold offs
  omega

theorem tooks_near (t0 t1 y x : Int) (h1 : 0 ≤ x - y) (h2 : x - y ≤ t1 - t0) (h3 : t1 - t0 ≤ 1152921504606846976) :
    t1 - t0 - (x - y) ≤ tooks t0 t1 (frm y) (frm x) ∧ tooks t0 t1 (frm y) (frm x) ≤ t1 - t0 - (x - y) + 1 := by
  obtain ⟨a1, a2⟩ := dif_near x y (by omega) (by omega)
  have e : took t0 t1 (frm y) (frm x) = t1 - t0 - nsf (way (frm x) (frm y)) := by
    unfold took; rw [stp_in (n := t1 - t0) (by omega) (by omega), stp_in (by omega) (by omega)]
  unfold tooks
  rw [e, if_neg (by omega)]
  omega
end Go.Proofs.Ytanoaelgaabmgaa
