/- reverseRangeOrdered at uint8 (laid by genrev.py). -/
import Derived.Test.YtjjcoblbiagflaaGreatKu8
import Derived.Deep.LoopGhost
namespace Go.Proofs.YtjjcoblbiagflaaGreat.ku
open Go.RowKit

set_option maxRecDepth 100000 in
set_option maxHeartbeats 4000000 in
theorem rev_any (B n cap a b : Nat) (tl : Array Value) (d : Array A) (w : World) (h : Rw enc T tl w B d) (hn : d.size = n) (hs : n ≤ 1000000) (hab : a < b) (hb : b ≤ n) :
    Calls Tryz.prog 58 #[.slice (some ⟨B, 0, none⟩) n cap, .int .i64 a, .int .i64 b] w fun e w' => e = .returned (.tuple #[]) ∧ Rw enc T tl w' B (Sort.reverseRange d a b) ∧ But B w w' := by
  unfold Sort.reverseRange
  have R0 := Lib.hid (And.intro h (And.intro (But.refl B w) hn))
  obtain ⟨e, rfl⟩ : ∃ e, b = e + 1 := ⟨b - 1, by omega⟩
  obtain ⟨D, hD⟩ : ∃ D, D = Sort.reverseLoop a (e + 1 - 1) d := ⟨_, rfl⟩
  have HD := Lib.hid hD
  rw [← hD]
  clear h hn hD
  go_enter Tryz.func58, Tryz.ntmps58
  go_wp2
  go_loopg [6, 7] n (fun g v6 v7 wr => ∃ (i j : Nat) (d2 : Array A), i ≤ j + 1 ∧ j ≤ e ∧ j - i ≤ g ∧ v6 = .int .i64 (i : Int) ∧ v7 = .int .i64 (j : Int) ∧ Hid (D = Sort.reverseLoop i j d2) ∧ Hid (Rw enc T tl wr B d2 ∧ But B w wr ∧ d2.size = n))
  case atStart => exact ⟨a, e, d, by omega, by omega, by omega, by go_num, by go_num, HD, R0⟩
  case round =>
    clear R0 HD
    obtain ⟨i, j, d2, hi1, hj1, hg, rfl, rfl, E, R⟩ := hrel
    have hsz := R.out.2.2
    by_cases hij : i < j
    · obtain ⟨k, rfl⟩ : ∃ k, j = k + 1 := ⟨j - 1, by omega⟩
      have hst := E.out
      rw [Sort.reverseLoop, if_pos hij] at hst
      simp only [Nat.add_sub_cancel] at hst
      have HST := Lib.hid hst
      have hd1 : decide ((i : Int) < (k : Int) + 1) = true := decide_eq_true (by omega)
      clear hst E
      obtain ⟨y1, hy1⟩ := enc_ex d2[i]!
      obtain ⟨y2, hy2⟩ := enc_ex d2[k + 1]!
      have f1 : wr.cell? ⟨B, i, none⟩ = some (.int .u8 y1) := by rw [← hy1]; exact R.out.1.cell (i) (by omega)
      have f2 : wr.cell? ⟨B, k + 1, none⟩ = some (.int .u8 y2) := by rw [← hy2]; exact R.out.1.cell (k + 1) (by omega)
      have g1 := R.out.1.frozen (i)
      have g2 := R.out.1.frozen (k + 1)
      obtain ⟨v3, u3⟩ := R.out.1.third (i) (k + 1) (by omega) (by omega) d2[k + 1]!
      have S := Lib.hid (R.out.1.swapped (i) (k + 1) (by omega) (by omega))
      rw [hy2] at u3
      rw [hy1, hy2] at S
      clear hy1 hy2
      go_wp2_with fail
      go_region
      have R4 := Lib.hid (show Rw enc T tl _ B (Sort.swp d2 (i) (k + 1)) ∧ But B w _ ∧ (Sort.swp d2 (i) (k + 1)).size = n from ⟨S.out.1, R.out.2.1.trans S.out.2, by rw [Sort.size_swp]; exact R.out.2.2⟩)
      clear f1 f2 g1 g2 u3 S R 
      go_wp2
      go_roundg (k - (i + 1))
      case measure => omega
      case rel => exact ⟨i + 1, k, _, by omega, by omega, by omega, by go_num, by go_num, HST, R4⟩
    · have hst := E.out
      rw [Sort.reverseLoop, if_neg hij] at hst
      have R3 := R
      rw [← hst] at R3
      have hd1 : decide ((i : Int) < (j : Int)) = false := decide_eq_false (by omega)
      clear hst E R
      go_wp2
      go_end0
      exact ⟨rfl, R3.out.1, R3.out.2.1⟩
end Go.Proofs.YtjjcoblbiagflaaGreat.ku
