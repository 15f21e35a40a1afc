/- The names, none of which has been seen before. -/
import Derived.Test.YtojaliclbfijaaaNames
import Derived.Maps.Own
namespace Go.Proofs.Ytojaliclbfijaaa
open Go.RowKit Go.Maps Go.WideMaps

theorem law9 : Keyed Try.prog 9 := string_keyed Try.underlying9
theorem zero4 (w : World) : (zeroValue 4).run Try.prog w = .ok (.bool false) w := by kernel_rfl
def nameKeys : List (List UInt8) := [[116, 97, 107, 101, 110], [115, 104, 111, 114, 116], [117, 110, 107, 110, 111, 119, 110], [114, 101, 116, 105, 114, 101, 100], [105, 100, 108, 101], [118, 101, 114, 115, 105, 111, 110], [109, 111, 100, 101], [111, 114, 105, 103, 105, 110], [107, 105, 115, 115], [108, 101, 97, 112], [115, 116, 114, 97, 116, 117, 109], [122, 101, 114, 111], [115, 108, 111, 119]]
/-- What the map reads as when n names have been seen. -/
def seenD (n : Nat) : DataW Unit := (nameKeys.take n).foldl (fun d s => d.put (.string s) (.lit (.bool true))) (.map [])

theorem plainElem_bool_inv {H : Type} {P : Program} {e : TypeId} (he : P.underlying e = some .bool) {v : Value} {z : DataW H × List MemPlace} (h : plainElem P e v = some z) : ∃ b, v = .bool b ∧ z = (.lit (.bool b), []) := by
  unfold plainElem at h
  rw [he] at h
  cases v <;> simp at h
  exact ⟨_, rfl, h.symm⟩
theorem lookup_bool {w : World} {b n : Nat} {D : DataW Unit} (h : w.ownsMap Try.prog 9 (plainElem Try.prog 4) b n D) {s : ByteArray} (hs : s.size ≤ maxLen) (hat : D.atKey (.string s.data.toList) (.lit (.bool false)) = .lit (.bool false)) :
    (Instr.lookup 44 (.map (some b)) (.string s) false).run Try.prog w = .ok (.bool false) w := by
  obtain ⟨v, ps, hrun, hv⟩ := h.lookup law9 Try.underlying44 (zero4 w) (plainElem_bool Try.underlying4 false) (keyOf_string_mk Try.underlying9 hs)
  obtain ⟨c, rfl, hc⟩ := plainElem_bool_inv Try.underlying4 hv
  simp only [Prod.mk.injEq] at hc
  rw [hat] at hc
  have : c = false := by have := hc.1; injection this with h1; injection h1 with h2; exact h2.symm
  rw [this] at hrun
  exact hrun
theorem name_facts : ∀ n, n < 13 → ∃ s : ByteArray, nameCells[n]? = some (.string s) ∧ s.toList.isEmpty = false ∧ (s.toList == [111, 116, 104, 101, 114]) = false ∧ s.size ≤ maxLen ∧
    (seenD n).atKey (.string s.data.toList) (.lit (.bool false)) = .lit (.bool false) ∧ seenD (n + 1) = (seenD n).put (.string s.data.toList) (.lit (.bool true))
  | 0, _ => ⟨_, rfl, by kernel_rfl, by kernel_rfl, by decide, by kernel_rfl, rfl⟩
  | 1, _ => ⟨_, rfl, by kernel_rfl, by kernel_rfl, by decide, by kernel_rfl, rfl⟩
  | 2, _ => ⟨_, rfl, by kernel_rfl, by kernel_rfl, by decide, by kernel_rfl, rfl⟩
  | 3, _ => ⟨_, rfl, by kernel_rfl, by kernel_rfl, by decide, by kernel_rfl, rfl⟩
  | 4, _ => ⟨_, rfl, by kernel_rfl, by kernel_rfl, by decide, by kernel_rfl, rfl⟩
  | 5, _ => ⟨_, rfl, by kernel_rfl, by kernel_rfl, by decide, by kernel_rfl, rfl⟩
  | 6, _ => ⟨_, rfl, by kernel_rfl, by kernel_rfl, by decide, by kernel_rfl, rfl⟩
  | 7, _ => ⟨_, rfl, by kernel_rfl, by kernel_rfl, by decide, by kernel_rfl, rfl⟩
  | 8, _ => ⟨_, rfl, by kernel_rfl, by kernel_rfl, by decide, by kernel_rfl, rfl⟩
  | 9, _ => ⟨_, rfl, by kernel_rfl, by kernel_rfl, by decide, by kernel_rfl, rfl⟩
  | 10, _ => ⟨_, rfl, by kernel_rfl, by kernel_rfl, by decide, by kernel_rfl, rfl⟩
  | 11, _ => ⟨_, rfl, by kernel_rfl, by kernel_rfl, by decide, by kernel_rfl, rfl⟩
  | 12, _ => ⟨_, rfl, by kernel_rfl, by kernel_rfl, by decide, by kernel_rfl, rfl⟩
  | n + 13, h => by omega
end Go.Proofs.Ytojaliclbfijaaa
