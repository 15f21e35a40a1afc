/- The reasons' names; the document's decimals. -/
import Derived.Test.YtfhpckglckcdjaaDoorCn
import Derived.Test.YtfhpckglckcdjaaDoorMem
import Derived.Lib.AppendIntMem
namespace Go.Proofs.YtfhpckglckcdjaaDoor
open Go.RowKit Go.Proofs.Lx

/-- The names' cells. -/
def nameCells : Array Value := (nameL.map Str).toArray
theorem name_at : ∀ i, i < 13 → nameCells[i]? = some (Str (nameAt i))
  | 0, _ => rfl
  | 1, _ => rfl
  | 2, _ => rfl
  | 3, _ => rfl
  | 4, _ => rfl
  | 5, _ => rfl
  | 6, _ => rfl
  | 7, _ => rfl
  | 8, _ => rfl
  | 9, _ => rfl
  | 10, _ => rfl
  | 11, _ => rfl
  | 12, _ => rfl
  | n + 13, h => by omega
/-- The names lie in block g. -/
def NamesAt (w : World) (g : Nat) : Prop := w.heap[g]? = some (.cells nameCells 9 (0, 0))
theorem NamesAt.lt {w : World} {g : Nat} (h : NamesAt w g) : g < w.heap.size := (Array.getElem?_eq_some_iff.1 h).1
theorem NamesAt.below {w w' : World} {g : Nat} (h : NamesAt w g) (hb : Below w.heap.size w w') : NamesAt w' g := (hb.block g h.lt).trans h
theorem NamesAt.cell {w : World} {g : Nat} (h : NamesAt w g) (i : Nat) (hi : i < 13) : w.cell? ⟨g, i, none⟩ = some (Str (nameAt i)) := by
  rw [cell_of_row _ _ i _ _ _ h, name_at i hi]
theorem NamesAt.new (w : World) : NamesAt (w.alloc (.cells nameCells 9)) w.heap.size := heap_alloc_new w _
theorem names_any (w : World) : Calls Tryd.prog 19 #[] w fun e w' => e = .returned (.slice (some ⟨w.heap.size, 0, none⟩) 13 13) ∧ w' = w.alloc (.cells nameCells 9) := by
  go_enter Tryd.func19, Tryd.ntmps19
  go_wp2
  go_ret
  exact ⟨rfl, rfl⟩
theorem rnames_any (w : World) : Calls Tryd.prog 15 #[] w fun e w' => e = .returned (.slice (some ⟨w.heap.size, 0, none⟩) 13 13) ∧ w' = w.alloc (.cells nameCells 9) := by
  go_enter Tryd.func15, Tryd.ntmps15
  go_wp2
  go_ret
  exact ⟨rfl, rfl⟩

/-! ### digits, from behind -/
/-- The digits of m ahead of t, none where m is 0. -/
def pre (m : Nat) (t : Bs) : Bs := if m = 0 then t else Lib.decDigits m ++ t
theorem pre_step (m : Nat) (t : Bs) : Lib.decDigits m ++ t = pre (m / 10) (UInt8.ofNat (48 + m % 10) :: t) := by
  unfold pre
  by_cases h : m < 10
  · rw [Lib.decDigits_one h, if_pos (by omega), Nat.mod_eq_of_lt h]; rfl
  · rw [if_neg (by omega), Lib.decDigits, dif_neg h]; simp
theorem run_str1 (w : World) (z : Int) : (convert 36 9 (.slice (some ⟨w.heap.size, 0, none⟩) 1 1)).run Tryd.prog (w.alloc (.cells #[.int .u8 z] 5)) = .ok (.string ⟨#[UInt8.ofNat z.toNat]⟩) (w.alloc (.cells #[.int .u8 z] 5)) := by
  have := run_convert_bytes_arg (P := Tryd.prog) (w.alloc (.cells #[.int .u8 z] 5)) 36 5 Tryd.underlying36 Tryd.underlying5 w.heap.size 0 1 1 [z] rfl (fun i hi => by
    obtain rfl : i = 0 := by omega
    simp) 9 Tryd.underlying9
  exact this
theorem app1 (c : UInt8) (t : ByteArray) : ((⟨#[c]⟩ : ByteArray) ++ t).data.toList = c :: t.data.toList := by simp
def emptyOf : Value → Nat
  | .string t => if t.data.toList = [] then 1 else 0
  | _ => 0
theorem emptyOf_nil (t : ByteArray) (h : t.data.toList = []) : emptyOf (.string t) = 1 := if_pos h
theorem emptyOf_app (c : UInt8) (t : ByteArray) : emptyOf (.string (⟨#[c]⟩ ++ t)) = 0 := by
  show (if ((⟨#[c]⟩ : ByteArray) ++ t).data.toList = [] then 1 else 0) = 0
  rw [app1, if_neg (by simp)]
def Rest (n0 m : Nat) (t : Bs) : Prop := (m = n0 ∧ t = []) ∨ (t ≠ [] ∧ Lib.decDigits n0 = pre m t)
theorem Rest.step {n0 m : Nat} {t : Bs} (h : Rest n0 m t) (hgo : 0 < m ∨ t = []) : Rest n0 (m / 10) (UInt8.ofNat (48 + m % 10) :: t) := by
  refine .inr ⟨by simp, ?_⟩
  rw [← pre_step]
  rcases h with ⟨rfl, rfl⟩ | ⟨h1, h2⟩
  · simp
  · rw [h2]; unfold pre; rw [if_neg (by rcases hgo with h | h; · omega
                                        · exact absurd h h1)]
theorem Rest.end_ {n0 : Nat} {t : Bs} (h : Rest n0 0 t) (hgo : t ≠ []) : Lib.decDigits n0 = t := by
  rcases h with ⟨_, h⟩ | ⟨_, h⟩
  · exact absurd h hgo
  · rw [h]; rfl
/-- A number's text. -/
def decS (n : Nat) : ByteArray := ⟨(Lib.decDigits n).toArray⟩
theorem len_eq (s : ByteArray) : s.data.toList.length = s.size := by rw [Array.length_toList]; rfl

set_option maxRecDepth 100000 in
set_option maxHeartbeats 2000000 in
theorem rdec_any (n0 : Nat) (w : World) (hn : n0 ≤ 1000000000000) :
    Calls Tryd.prog 16 #[.int .i64 n0] w fun e w' => e = .returned (.string (decS n0)) ∧ Below w.heap.size w w' := by
  go_enter Tryd.func16, Tryd.ntmps16
  go_wp2
  go_loopw [0, 3] (fun a b wr => ∃ (m : Nat) (t : ByteArray), a = .int .i64 m ∧ b = .string t ∧ m ≤ 1000000000000 ∧ t.size ≤ 1000000000000 - m ∧ Hid (Rest n0 m t.data.toList) ∧ Below w.heap.size w wr) (fun a b _ => (intOf a).toNat + emptyOf b)
  case atStart => exact ⟨n0, ⟨#[]⟩, rfl, rfl, by omega, (show (0 : Nat) ≤ _ from Nat.zero_le _), .inl ⟨rfl, rfl⟩, Below.refl _ _⟩
  case round =>
    obtain ⟨m, t, rfl, rfl, hm, hts, HR, hb⟩ := hrel
    have hbs := hb.size
    by_cases hgo : 0 < m ∨ t.data.toList = []
    · have HR2 := Lib.hid (HR.out.step hgo)
      have hcv := run_str1 wr (48 + (m : Int) % 10)
      obtain ⟨c, hc⟩ : ∃ c, c = UInt8.ofNat (48 + (m : Int) % 10).toNat := ⟨_, rfl⟩
      rw [show UInt8.ofNat (48 + m % 10) = c by rw [hc]; congr 1] at HR2
      rw [← hc] at hcv
      clear hc
      have hsz : (⟨#[c]⟩ : ByteArray).size = 1 := rfl
      by_cases hm0 : (0 : Int) < (m : Int)
      · clear hgo HR
        go_wp2
        go_roundw
        case rel => exact ⟨m / 10, _, by go_num, rfl, by omega, by rw [ByteArray.size_append, show (⟨#[c]⟩ : ByteArray).size = 1 from rfl]; omega, by rw [app1]; exact HR2, hb.alloc hbs _⟩
        case measure => simp [intOf, emptyOf]; omega
      · obtain rfl : m = 0 := by omega
        rw [show (48 + ((0 : Nat) : Int) % 10) = 48 from rfl] at hcv
        have hte : t.data.toList = [] := by
          rcases hgo with h | h
          · omega
          · exact h
        have hE : t.toList.isEmpty = true := by rw [ByteArray.toList_eq, hte]; rfl
        have HTE := Lib.hid hte
        have hts0 : t.size = 0 := by rw [← len_eq, hte]; rfl
        clear hgo HR hte
        go_wp2
        go_roundw
        case rel => exact ⟨0, _, rfl, rfl, by omega, by rw [ByteArray.size_append, show (⟨#[c]⟩ : ByteArray).size = 1 from rfl]; omega, by rw [app1]; exact HR2, hb.alloc hbs _⟩
        case measure => rw [emptyOf_nil t HTE.out, emptyOf_app]; simp [intOf]
    · obtain rfl : m = 0 := by omega
      have hte : t.data.toList ≠ [] := fun h => hgo (.inr h)
      have hE : t.toList.isEmpty = false := by rw [ByteArray.toList_eq]; simpa using hte
      have HF := Lib.hid (HR.out.end_ hte)
      clear hgo hte HR
      go_wp2
      go_ret
      exact ⟨by rw [show decS n0 = t by unfold decS; rw [HF.out]]; rfl, hb⟩
end Go.Proofs.YtfhpckglckcdjaaDoor
