/- Text, the program's and the document's. -/
import Derived.Test.YtlbabhddjdhalaaDoorLaid
import Derived.Lib.AppendIntMem
namespace Go.Proofs.YtlbabhddjdhalaaDoor
open Go.RowKit Go.Proofs.Lx

def textOf (n : Int) : Bs := if 0 ≤ n ∧ n ≤ 1000000000 then Lib.decDigits n.toNat else []
def textS (n : Int) : ByteArray := ⟨(textOf n).toArray⟩
theorem textS_list (n : Int) : (textS n).data.toList = textOf n := by unfold textS; simp

theorem textS_none (n : Int) (h : ¬ (0 ≤ n ∧ n ≤ 1000000000)) : textS n = ⟨#[]⟩ := by unfold textS textOf; rw [if_neg h]
theorem textS_itoa (n : Int) (h : 0 ≤ n) (h1 : n ≤ 1000000000) : textS n = ⟨(Lib.itoa n).toArray⟩ := by unfold textS textOf; rw [if_pos ⟨h, h1⟩]; unfold Lib.itoa; rw [if_neg (by omega)]
theorem textS_dec (n : Nat) (h1 : n ≤ 1000000000) : textS n = ⟨(Lib.decDigits n).toArray⟩ := by unfold textS textOf; rw [if_pos (by omega)]; rfl

set_option maxRecDepth 100000 in
set_option maxHeartbeats 1000000 in
theorem text_any (n : Int) (w : World) (h0 : -9223372036854775808 ≤ n) (h1 : n ≤ 9223372036854775807) (ht : Pow w) :
    Calls Tryd.prog 43 #[.int .i64 n] w fun e w' => e = .returned (.string (textS n)) ∧ Below w.heap.size w w' := by
  have HT := Lib.hid ht
  clear ht
  by_cases hn : n < 0
  · have HS := Lib.hid (textS_none n (by omega))
    go_enter Tryd.func43, Tryd.ntmps43
    go_wp2
    go_ret
    exact ⟨by rw [HS.out]; rfl, Below.refl _ _⟩
  · by_cases hg : (1000000000 : Int) < n
    · have HS := Lib.hid (textS_none n (by omega))
      go_enter Tryd.func43, Tryd.ntmps43
      go_wp2
      go_ret
      exact ⟨by rw [HS.out]; rfl, Below.refl _ _⟩
    · have HS := Lib.hid (textS_itoa n (by omega) (by omega))
      have K : Hid (Calls Tryd.prog 64 #[.int .i64 n] w fun e w' => e = .returned (.string (textS n)) ∧ Below w.heap.size w w') := by
        rw [HS.out]
        refine (Tryd.strconv_Itoa n h0 h1 w HT.out).mono ?_
        rintro e w' ⟨rfl, k, os, rfl⟩
        exact ⟨rfl, Lib.below_grow _ _ (Nat.le_refl _) _ _⟩
      clear HS
      obtain ⟨t, hT⟩ : ∃ t, t = textS n := ⟨_, rfl⟩
      rw [← hT] at K ⊢
      clear hT
      go_enter Tryd.func43, Tryd.ntmps43
      go_wp2_with (go_at_call 64; refine K.out.mono ?_; rintro e w1 ⟨rfl, hb1⟩)
      go_ret
      exact ⟨rfl, hb1⟩

/-- The digits of m ahead of t, none where m is 0. -/
def pre (m : Nat) (t : Bs) : Bs := if m = 0 then t else Lib.decDigits m ++ t
theorem pre_step (m : Nat) (t : Bs) : Lib.decDigits m ++ t = pre (m / 10) (UInt8.ofNat (48 + m % 10) :: t) := by
  unfold pre
  by_cases h : m < 10
  · rw [Lib.decDigits_one h, if_pos (by omega), Nat.mod_eq_of_lt h]; rfl
  · rw [if_neg (by omega), Lib.decDigits, dif_neg h]; simp

theorem run_str1 (w : World) (z : Int) : (convert 48 9 (.slice (some ⟨w.heap.size, 0, none⟩) 1 1)).run Tryd.prog (w.alloc (.cells #[.int .u8 z] 5)) = .ok (.string ⟨#[UInt8.ofNat z.toNat]⟩) (w.alloc (.cells #[.int .u8 z] 5)) := by
  have := run_convert_bytes_arg (P := Tryd.prog) (w.alloc (.cells #[.int .u8 z] 5)) 48 5 Tryd.underlying48 Tryd.underlying5 w.heap.size 0 1 1 [z] rfl (fun i hi => by
    obtain rfl : i = 0 := by omega
    simp) 9 Tryd.underlying9
  exact this

theorem app1 (c : UInt8) (t : ByteArray) : ((⟨#[c]⟩ : ByteArray) ++ t).data.toList = c :: t.data.toList := by simp
def emptyOf : Value → Nat
  | .string t => if t.data.toList = [] then 1 else 0
  | _ => 0
theorem emptyOf_nil (t : ByteArray) (h : t.data.toList = []) : emptyOf (.string t) = 1 := if_pos h
theorem emptyOf_app (c : UInt8) (t : ByteArray) : emptyOf (.string (⟨#[c]⟩ ++ t)) = 0 := by
  show (if ((⟨#[c]⟩ : ByteArray) ++ t).data.toList = [] then 1 else 0) = 0
  rw [app1, if_neg (by simp)]
def Rest (n0 m : Nat) (t : Bs) : Prop := (m = n0 ∧ t = []) ∨ (t ≠ [] ∧ Lib.decDigits n0 = pre m t)
theorem Rest.step {n0 m : Nat} {t : Bs} (h : Rest n0 m t) (hgo : 0 < m ∨ t = []) : Rest n0 (m / 10) (UInt8.ofNat (48 + m % 10) :: t) := by
  refine .inr ⟨by simp, ?_⟩
  rw [← pre_step]
  rcases h with ⟨rfl, rfl⟩ | ⟨h1, h2⟩
  · simp
  · rw [h2]; unfold pre; rw [if_neg (by rcases hgo with h | h; · omega
                                        · exact absurd h h1)]
theorem Rest.end_ {n0 : Nat} {t : Bs} (h : Rest n0 0 t) (hgo : t ≠ []) : Lib.decDigits n0 = t := by
  rcases h with ⟨_, h⟩ | ⟨_, h⟩
  · exact absurd h hgo
  · rw [h]; rfl

set_option maxRecDepth 100000 in
set_option maxHeartbeats 2000000 in
theorem rtext_any (n : Int) (w : World) :
    Calls Tryd.prog 31 #[.int .i64 n] w fun e w' => e = .returned (.string (textS n)) ∧ Below w.heap.size w w' := by
  by_cases hn : n < 0
  · have HS := Lib.hid (textS_none n (by omega))
    go_enter Tryd.func31, Tryd.ntmps31
    go_wp2
    go_ret
    exact ⟨by rw [HS.out]; rfl, Below.refl _ _⟩
  · by_cases hg : (1000000000 : Int) < n
    · have HS := Lib.hid (textS_none n (by omega))
      go_enter Tryd.func31, Tryd.ntmps31
      go_wp2
      go_ret
      exact ⟨by rw [HS.out]; rfl, Below.refl _ _⟩
    · obtain ⟨n0, rfl⟩ : ∃ n0 : Nat, n = n0 := ⟨n.toNat, by omega⟩
      have HS : Hid (textS n0 = ⟨(Lib.decDigits n0).toArray⟩) := textS_dec n0 (by omega)
      go_enter Tryd.func31, Tryd.ntmps31
      go_wp2
      go_loopw [0, 3] (fun a b wr => ∃ (m : Nat) (t : ByteArray), a = .int .i64 m ∧ b = .string t ∧ m ≤ 1000000000 ∧ t.size ≤ 1000000000 - m ∧ Hid (Rest n0 m t.data.toList) ∧ Below w.heap.size w wr) (fun a b _ => (intOf a).toNat + emptyOf b)
      case atStart => exact ⟨n0, ⟨#[]⟩, rfl, rfl, by omega, by simp [ByteArray.size], .inl ⟨rfl, rfl⟩, Below.refl _ _⟩
      case round =>
        obtain ⟨m, t, rfl, rfl, hm, hts, HR, hb⟩ := hrel
        have hbs := hb.size
        by_cases hgo : 0 < m ∨ t.data.toList = []
        · have HR2 := Lib.hid (HR.out.step hgo)
          have hcv := run_str1 wr (48 + (m : Int) % 10)
          obtain ⟨c, hc⟩ : ∃ c, c = UInt8.ofNat (48 + (m : Int) % 10).toNat := ⟨_, rfl⟩
          rw [show UInt8.ofNat (48 + m % 10) = c by rw [hc]; congr 1] at HR2
          rw [← hc] at hcv
          clear hc
          have hsz : (⟨#[c]⟩ : ByteArray).size = 1 := rfl
          by_cases hm0 : (0 : Int) < (m : Int)
          · clear hgo HR
            go_wp2
            go_roundw
            case rel => exact ⟨m / 10, _, by go_num, rfl, by omega, by rw [ByteArray.size_append, show (⟨#[c]⟩ : ByteArray).size = 1 from rfl]; omega, by rw [app1]; exact HR2, hb.alloc hbs _⟩
            case measure => simp [intOf, emptyOf]; omega
          · obtain rfl : m = 0 := by omega
            rw [show (48 + ((0 : Nat) : Int) % 10) = 48 from rfl] at hcv
            have hte : t.data.toList = [] := by
              rcases hgo with h | h
              · omega
              · exact h
            have hE : t.toList.isEmpty = true := by rw [ByteArray.toList_eq, hte]; rfl
            have HTE := Lib.hid hte
            have hts0 : t.size = 0 := by rw [← len_eq, hte]; rfl
            clear hgo HR hte
            go_wp2
            go_roundw
            case rel => exact ⟨0, _, rfl, rfl, by omega, by rw [ByteArray.size_append, show (⟨#[c]⟩ : ByteArray).size = 1 from rfl]; omega, by rw [app1]; exact HR2, hb.alloc hbs _⟩
            case measure => rw [emptyOf_nil t HTE.out, emptyOf_app]; simp [intOf]
        · obtain rfl : m = 0 := by omega
          have hte : t.data.toList ≠ [] := fun h => hgo (.inr h)
          have hE : t.toList.isEmpty = false := by rw [ByteArray.toList_eq]; simpa using hte
          have HF := Lib.hid (HR.out.end_ hte)
          clear hgo hte HR
          go_wp2
          go_ret
          exact ⟨by rw [HS.out, HF.out]; rfl, hb⟩
end Go.Proofs.YtlbabhddjdhalaaDoor
