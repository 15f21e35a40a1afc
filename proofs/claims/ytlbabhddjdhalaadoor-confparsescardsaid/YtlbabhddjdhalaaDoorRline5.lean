/- The document's own line, of another word. -/
import Derived.Test.YtlbabhddjdhalaaDoorRst
namespace Go.Proofs.YtlbabhddjdhalaaDoor
open Go.RowKit Go.Proofs.Lx

set_option maxRecDepth 100000 in
set_option maxHeartbeats 8000000 in
theorem rline_5 (l : Bs) (r : List Bs) (st : St) (bc g n c : Nat) (w : World) (hst : Rst w bc st) (hn : n = (l :: r).length) (_ : n ≤ c) (hg : g < w.heap.size) (hcell : ∀ (j : Nat) (x : Bs), (l :: r)[j]? = some x → w.cell? ⟨g, j, none⟩ = some (Str x)) (hl0 : n ≤ 1000000) (hsz : ∀ x ∈ r, x.length ≤ 1000000) (hl : ∀ k, k < 5 → l ≠ wordK k) :
    Calls Tryd.prog 35 #[.pointer (some ⟨bc, 0, none⟩), .pointer (some ⟨bc + 1, 0, none⟩), .slice (some ⟨g, 0, none⟩) n c] w fun e w' => LinePost w bc (doL st (l :: r)) e w' := by
  skip
  have hlt := hst.lt
  obtain ⟨p, hp, hpl⟩ := str_mk l
  have f0 := hcell 0 l rfl
  rw [hp] at f0
  have HR : Hid (n = r.length + 1) := by show _ = _; rw [hn]; simp
  obtain ⟨X, hX⟩ : ∃ X, X = w.alloc (.cells #[.string ⟨#[115, 101, 114, 118, 101, 114]⟩, .string ⟨#[113, 117, 111, 114, 117, 109]⟩, .string ⟨#[112, 111, 108, 108]⟩, .string ⟨#[100, 101, 108, 97, 121]⟩, .string ⟨#[115, 108, 101, 119]⟩] 9) := ⟨_, rfl⟩
  have HX5 : Hid (X.heap[w.heap.size]? = some (.cells fiveW 9 (0, 0))) := by show _ = _; rw [hX]; exact heap_alloc_new _ _
  have hbX : Below w.heap.size w X := by rw [hX]; exact below_alloc _ _
  have HBX := Lib.hid hbX
  have x0 : X.cell? ⟨g, 0, none⟩ = some (.string p) := (hbX.cell (p := ⟨g, 0, none⟩) hg).trans f0
  have HRS := Lib.hid (hst.below hbX (Nat.le_refl _))
  have HBN : Hid (∀ m, Below w.heap.size w (X.drewN m)) := fun m => ⟨hbX.os, hbX.tape, hbX.output, hbX.size, hbX.block⟩
  have HCE := Lib.hid hcell
  have HPL := Lib.hid hpl
  have HSZ := Lib.hid hsz
  have n2 : 0 < n := by have := HR.out; omega
  have n1 : (0 : Int) < (n : Int) := by omega
  have HBZ : Hid (∀ m, Below bc w (X.drewN m)) := fun m => (HBN.out m).mono (by omega)
  have HL := Lib.hid hl
  clear hl
  clear hn hcell hpl hsz hbX f0 hst hp
  go_enter Tryd.func35, Tryd.ntmps35
  go_wp2
  rw [← hX]
  clear hX
  go_loopw [8] (fun i wr => ∃ k m : Nat, k ≤ 5 ∧ i = .int .i64 k ∧ wr = X.drewN m) (fun i _ => 5 - (intOf i).toNat)
  case atStart => exact ⟨0, 0, Nat.zero_le _, rfl, rfl⟩
  case round =>
    obtain ⟨k, m, hk, rfl, rfl⟩ := hrel
    by_cases hki : k < 5
    · obtain ⟨q, hq, hql⟩ := word_at HX5.out k (by omega)
      have tq : (q.toList == p.toList) = false := word_ne (by
        rw [hql, HPL.out]
        exact Ne.symm (HL.out k (by omega)))
      have tk : decide ((k : Int) < 5) = true := decide_eq_true (by omega)
      have tk2 : (k : Int) < 5 := by omega
      have tk3 : (0 : Int) ≤ (k : Int) := by omega
      go_wp2
      go_quiet (fail)
      go_wp2
      go_roundw
      case rel => exact ⟨k + 1, _, by omega, by go_num, rfl⟩
      case measure => simp [intOf]; omega
    · obtain rfl : k = 5 := by omega
      clear hki hk
      have HD := Lib.hid (doL_none st l r HL.out)
      have t5 : decide ((5 : Int) < 5) = false := by decide
      go_wp2
      go_quiet (fail)
      go_wp2
      go_ret
      exact lnp_bad HD.out (by decide) (HBZ.out _)
end Go.Proofs.YtlbabhddjdhalaaDoor
