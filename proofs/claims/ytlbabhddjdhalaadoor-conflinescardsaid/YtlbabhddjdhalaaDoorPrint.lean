/- Print, and the line of a word. -/
import Derived.Test.YtlbabhddjdhalaaDoorChk2
import Derived.Test.YtlbabhddjdhalaaDoorText
import Derived.Shelf.Strings.BuilderK
import Derived.Lib.ItoaLen
namespace Go.Proofs.YtlbabhddjdhalaaDoor
open Go.RowKit Go.Proofs.Lx

/-- The numbers of a line, each behind a blank. -/
def numsT : List Int → Bs
  | [] => []
  | n :: r => 32 :: (textOf n ++ numsT r)
def lineOf (word : Bs) (ns : List Int) : Bs := word ++ numsT ns ++ [10]
def wordS (l : Bs) : ByteArray := ⟨l.toArray⟩
theorem numsT_snoc : ∀ (xs : List Int) (x : Int), numsT (xs ++ [x]) = numsT xs ++ (32 :: textOf x)
  | [], x => by simp [numsT]
  | y :: xs, x => by simp [numsT, numsT_snoc xs x]
theorem take_numsT {xs : List Int} {k : Nat} (h : k < xs.length) : numsT (xs.take (k + 1)) = numsT (xs.take k) ++ (32 :: textOf xs[k]) := by
  rw [List.take_succ_eq_append_getElem h, numsT_snoc]
theorem str_app (a b : ByteArray) : (a ++ b).data.toList = a.data.toList ++ b.data.toList := by simp
theorem str_ext {a : ByteArray} {l : Bs} (h : a.data.toList = l) : Value.string a = .string ⟨l.toArray⟩ := by
  subst h; rfl

theorem text_len (n : Int) : (textOf n).length ≤ 21 := by
  unfold textOf
  split
  · rename_i h
    have := Lib.itoa_length_le n (by omega) (by omega)
    unfold Lib.itoa at this
    rw [if_neg (by omega)] at this
    exact this
  · simp
theorem textS_size (n : Int) : (textS n).size ≤ 21 := by
  have := text_len n
  rw [← textS_list, len_eq] at this
  exact this

set_option maxRecDepth 100000 in
set_option maxHeartbeats 2000000 in
theorem line_any (word : ByteArray) (v : Value) (xs : List Int) (w : World) (h : Ints w v xs) (hw : word.size ≤ 1000) (hl : xs.length ≤ 1000) (hin : ∀ x ∈ xs, -9223372036854775808 ≤ x ∧ x ≤ 9223372036854775807) (hp : Pow w) :
    Calls Tryd.prog 25 #[.string word, v] w fun e w' => e = .returned (.string ⟨(lineOf word.data.toList xs).toArray⟩) ∧ Below w.heap.size w w' := by
  obtain ⟨A, c, rfl, hc⟩ := h.len
  have HI := Lib.hid h
  have HP := Lib.hid hp
  have HR := Lib.hid hin
  clear h hp hin
  obtain ⟨N, hN⟩ : ∃ N, N = xs.length := ⟨_, rfl⟩
  have HN := Lib.hid hN
  rw [← hN] at hl hc ⊢
  clear hN
  go_enter Tryd.func25, Tryd.ntmps25
  go_wp2
  go_loopw [5, 11] (fun t i wr => ∃ (k : Nat) (s : ByteArray), k ≤ N ∧ i = .int .i64 k ∧ t = .string s ∧ s.size ≤ 1000 + 30 * k ∧ Hid (s.data.toList = word.data.toList ++ numsT (xs.take k)) ∧ Below w.heap.size w wr) (fun _ i _ => N - (intOf i).toNat)
  case atStart => exact ⟨0, word, Nat.zero_le _, rfl, rfl, by omega, (by simp [numsT] : word.data.toList = word.data.toList ++ numsT (xs.take 0)), Below.refl _ _⟩
  case round =>
    obtain ⟨k, s, hk, rfl, rfl, hsz, HX, hbr⟩ := hrel
    by_cases hkN : k < N
    · have hk1 : k < xs.length := by have := HN.out; omega
      obtain ⟨g, o, rfl, hg, hcell⟩ := (HI.out.below hbr (Nat.le_refl _)).at_ k hk1
      have hr := HR.out xs[k] (List.getElem_mem hk1)
      have K := Lib.hid (text_any xs[k] wr hr.1 hr.2 (HP.out.below hbr (Nat.le_refl _)))
      have HS := Lib.hid (take_numsT hk1)
      obtain ⟨x, hx⟩ : ∃ x, x = xs[k] := ⟨_, rfl⟩
      rw [← hx] at hcell K HS
      have hts := textS_size x
      have h32 : (⟨#[32]⟩ : ByteArray).size = 1 := rfl
      clear hx hr hk1
      go_wp2_with (go_at_call 43; refine K.out.mono ?_; rintro e w1 ⟨rfl, hb1⟩)
      have hs2 : (s ++ ((⟨#[32]⟩ : ByteArray) ++ textS x)).data.toList = word.data.toList ++ numsT (xs.take (k + 1)) := by
        rw [HS.out, str_app, str_app, HX.out, textS_list]
        simp
      have hb2 := hbr.trans (hb1.mono hbr.size)
      go_roundw
      case rel => exact ⟨k + 1, _, by omega, by go_num, rfl, by rw [ByteArray.size_append, ByteArray.size_append, h32]; omega, hs2, hb2⟩
      case measure => simp [intOf]; omega
    · have hx := HX.out
      rw [List.take_of_length_le (by have := HN.out; omega)] at hx
      have HF := Lib.hid hx
      clear hx HX
      have h10 : (⟨#[10]⟩ : ByteArray).size = 1 := rfl
      go_wp2
      go_ret
      refine ⟨?_, hbr⟩
      congr 1
      refine str_ext ?_
      rw [str_app, HF.out]
      simp [lineOf]
end Go.Proofs.YtlbabhddjdhalaaDoor
