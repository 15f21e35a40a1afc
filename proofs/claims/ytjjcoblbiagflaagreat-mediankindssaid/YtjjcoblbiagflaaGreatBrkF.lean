/- breakPatternsOrdered at float64 (laid by genbrk.py). -/
import Derived.Test.YtjjcoblbiagflaaGreatKf64
import Derived.Sort.LotD5
import Derived.Laws.Bits64b
namespace Go.Proofs.YtjjcoblbiagflaaGreat.kf
open Go.RowKit

/-- The generator's block. -/
def Cx (w : World) (S X : Nat) : Prop := w.heap[S]? = some (.cells #[.int .u64 (X : Int)] 105 (0, 0))
theorem Cx.cell {w : World} {S s : Nat} (h : Cx w S s) : w.cell? ⟨S, 0, none⟩ = some (.int .u64 (s : Int)) := by
  rw [cell_of_row _ _ 0 _ _ _ h]; rfl
theorem Cx.frozen {w : World} {S s : Nat} (h : Cx w S s) : w.frozen? ⟨S, 0, none⟩ = false := by
  unfold Cx at h
  simp [World.frozen?, h]
theorem Cx.but {w w' : World} {S s B : Nat} (h : Cx w S s) (hb : But B w w') (hn : S ≠ B) : Cx w' S s := (hb.block S (heap_lt h) hn).trans h
theorem Cx.set {w : World} {S s : Nat} (h : Cx w S s) (t : Nat) : Cx ((w.setCell ⟨S, 0, none⟩ (.int .u64 (t : Int))).drewN 3) S t := by
  have := heap_setCell_same w S 0 (.int .u64 (t : Int)) _ _ _ h
  show (w.setCell ⟨S, 0, none⟩ (.int .u64 (t : Int))).heap[S]? = _
  rw [this]
  rfl
theorem cx_new (w : World) (X : Nat) : Cx (w.alloc (.cells #[.int .u64 (X : Int)] 105 (0, 0))) w.heap.size X := by
  show (w.heap.push _)[w.heap.size]? = _
  simp
theorem but_setNew {b g : Nat} {u w : World} (h : But b u w) (hg : u.heap.size ≤ g) (v : Value) : But b u ((w.setCell ⟨g, 0, none⟩ v).drewN 3) := by
  refine But.drews ?_ 3
  exact ⟨h.os, h.tape, h.output, by simpa [World.setCell] using h.size, fun j hj hn => by rw [Below.heap_setCell _ _ _ _ (by show j ≠ g; omega)]; exact h.block j hj hn⟩
/-- The rounds that are left. -/
def bst (a L M : Nat) : Nat → Nat → UInt64 × Array A → UInt64 × Array A
  | 0, _, st => st
  | r + 1, i, st => bst a L M r (i + 1) (Sort.breakStep a L M st i)
theorem brk_eq {d : Array A} {a b L : Nat} (hL : b - a = L) (h8 : 8 ≤ L) : Sort.breakPatterns d a b = (bst a L (1 <<< Sort.bitsLen L) 3 (a + L / 4 * 2 - 1) (UInt64.ofNat L, d)).2 := by
  unfold Sort.breakPatterns
  simp only [hL]
  rw [if_pos h8]
  rfl
theorem bst_step {d : Array A} {a L M i r o X' O : Nat} {x : UInt64} (hX : X' = (Sort.xorNext x).toNat) (hO : O = X' &&& (M - 1)) (ho : (if L ≤ O then O - L else O) = o) : bst a L M (r + 1) i (x, d) = bst a L M r (i + 1) (Sort.xorNext x, Sort.swp d i (a + o)) := by
  subst hX hO
  show bst a L M r (i + 1) (Sort.breakStep a L M (x, d) i) = _
  unfold Sort.breakStep
  simp only [ge_iff_le, ho]

set_option maxRecDepth 100000 in
set_option maxHeartbeats 4000000 in
theorem brk_any (NP : ∀ n : Nat, n < 4611686018427387904 → ∀ w, Calls Tryz.prog 82 #[.int .i64 n] w fun e w' => e = .returned (.int .u64 ((1 <<< Sort.bitsLen n : Nat) : Int)) ∧ w' = w)
    (NX : ∀ rb X : Nat, X < 18446744073709551616 → ∀ w, w.cell? ⟨rb, 0, none⟩ = some (.int .u64 X) → w.frozen? ⟨rb, 0, none⟩ = false → Calls Tryz.prog 83 #[.pointer (some ⟨rb, 0, none⟩)] w fun e w' => e = .returned (.int .u64 (Sort.xorNextN X : Nat)) ∧ w' = (w.setCell ⟨rb, 0, none⟩ (.int .u64 (Sort.xorNextN X : Nat))).drewN 3)
    (B n cap a b : Nat) (tl : Array Value) (d : Array A) (w : World) (h : Rw enc T tl w B d) (hn : d.size = n) (hs : n ≤ 1000000) (hab : a + 12 < b) (hb : b ≤ n) :
    Calls Tryz.prog 47 #[.slice (some ⟨B, 0, none⟩) n cap, .int .i64 a, .int .i64 b] w fun e w' => e = .returned (.tuple #[]) ∧ Rw enc T tl w' B (Sort.breakPatterns d a b) ∧ But B w w' := by
  obtain ⟨L, hL⟩ : ∃ L, b - a = L := ⟨_, rfl⟩
  rw [brk_eq hL (by omega)]
  have hSB : w.heap.size ≠ B := by have := h.lt; omega
  have hBS : B ≠ w.heap.size := Ne.symm hSB
  have hM1 : 1 ≤ 1 <<< Sort.bitsLen L := by rw [Nat.one_shiftLeft]; exact Nat.two_pow_pos _
  obtain ⟨M1, hM⟩ : ∃ M1, 1 <<< Sort.bitsLen L = M1 + 1 := ⟨1 <<< Sort.bitsLen L - 1, by omega⟩
  have hM2 : M1 + 1 ≤ 2 * L := by rw [← hM, Nat.one_shiftLeft]; exact Sort.two_pow_bitsLen_le (by omega)
  have KNP := Lib.hid (NP L (by omega))
  rw [hM] at KNP ⊢
  have KNX := Lib.hid NX
  obtain ⟨Q, hQ⟩ : ∃ Q, L / 4 = Q := ⟨_, rfl⟩
  rw [hQ]
  obtain ⟨F, hF⟩ : ∃ F, a + Q * 2 - 1 = F := ⟨_, rfl⟩
  rw [hF]
  obtain ⟨D, hD⟩ : ∃ D, D = (bst a L (M1 + 1) 3 F (UInt64.ofNat L, d)).2 := ⟨_, rfl⟩
  rw [← hD]
  have HD := Lib.hid hD
  have H0 := Lib.hid (show Rw enc T tl (w.alloc (.cells #[.int .u64 (L : Int)] 105 (0, 0))) B d ∧ But B w (w.alloc (.cells #[.int .u64 (L : Int)] 105 (0, 0))) ∧ d.size = n ∧ Cx (w.alloc (.cells #[.int .u64 (L : Int)] 105 (0, 0))) w.heap.size L from ⟨h.below (bel_alloc w _), But.of_below (bel_alloc w _), hn, cx_new w L⟩)
  have hUL : (UInt64.ofNat L).toNat = L := by simp; omega
  have HUL := Lib.hid hUL
  have hw1 : IntKind.i64.wrap ((b : Int) - (a : Int)) = (L : Int) := by rw [IntWalk.i64_in _ (by omega)]; omega
  have hq : (L : Int).tdiv 4 = (Q : Int) := by rw [Int.tdiv_eq_ediv_of_nonneg (by omega)]; omega
  have hw3 : IntKind.i64.wrap (Q : Int) = (Q : Int) := IntWalk.i64_in _ (by omega)
  have hw4 : IntKind.i64.wrap ((Q : Int) * 2) = (Q : Int) * 2 := IntWalk.i64_in _ (by omega)
  have hw6 : IntKind.i64.wrap ((a : Int) + (Q : Int) * 2) = (F : Int) + 1 := by rw [IntWalk.i64_in _ (by omega)]; omega
  have hwu : IntKind.u64.wrap (L : Int) = (L : Int) := by simp only [IntKind.wrap_u64]; omega
  have hd8 : decide ((8 : Int) ≤ (L : Int)) = true := decide_eq_true (by omega)
  have HF := Lib.hid hF
  clear h hn hD hUL hM hM1 NP NX
  go_enter Tryz.func47, Tryz.ntmps47
  go_wp2_with fail
  refine (KNP.out _).mono ?_
  rintro e w1 ⟨rfl, rfl⟩
  go_wp2
  go_loopw [9] (fun v9 wr => ∃ (i r : Nat) (x : UInt64) (d2 : Array A), i + r = F + 3 ∧ F ≤ i ∧ v9 = .int .i64 (i : Int) ∧ Hid (D = (bst a L (M1 + 1) r i (x, d2)).2) ∧ Hid (Rw enc T tl wr B d2 ∧ But B w wr ∧ d2.size = n ∧ Cx wr w.heap.size x.toNat)) (fun s _ => F + 3 - (intOf s).toNat)
  case atStart => exact ⟨F, 3, UInt64.ofNat L, d, rfl, Nat.le_refl _, by go_num, HD, by rw [HUL.out]; exact H0⟩
  case round =>
    clear H0 HD KNP HUL
    obtain ⟨i, r, x, d2, hir, hiF, rfl, E, R0⟩ := hrel
    cases r with
    | zero =>
      have hst := E.out
      have hst2 : D = d2 := hst
      have hd1 : decide ((i : Int) ≤ (F : Int) + 1 + 1) = false := decide_eq_false (by omega)
      have R3 := R0
      rw [← hst2] at R3
      clear hst hst2 E R0 KNX hq
      go_wp2
      go_end0
      exact ⟨rfl, R3.out.1, R3.out.2.1⟩
    | succ r =>
      have hd1 : decide ((i : Int) ≤ (F : Int) + 1 + 1) = true := decide_eq_true (by omega)
      obtain ⟨X', hX'⟩ : ∃ X', X' = Sort.xorNextN x.toNat := ⟨_, rfl⟩
      have HX : Hid (X' = (Sort.xorNext x).toNat) := Lib.hid (by rw [hX', Sort.xorNext_toNat])
      have lX : X' < 18446744073709551616 := by rw [hX']; exact Sort.xorNextN_lt _ x.toNat_lt
      have KX := Lib.hid (KNX.out w.heap.size x.toNat x.toNat_lt wr R0.out.2.2.2.cell R0.out.2.2.2.frozen)
      rw [← hX'] at KX
      have RX := Lib.hid (show Rw enc T tl ((wr.setCell ⟨w.heap.size, 0, none⟩ (.int .u64 (X' : Int))).drewN 3) B d2 ∧ But B w ((wr.setCell ⟨w.heap.size, 0, none⟩ (.int .u64 (X' : Int))).drewN 3) ∧ d2.size = n ∧ Cx ((wr.setCell ⟨w.heap.size, 0, none⟩ (.int .u64 (X' : Int))).drewN 3) w.heap.size X' from ⟨R0.out.1.but (((But.refl _ wr).setCell 0 _).drews 3) hBS, but_setNew R0.out.2.1 (Nat.le_refl _) _, R0.out.2.2.1, R0.out.2.2.2.set X'⟩)
      obtain ⟨O, hO⟩ : ∃ O : Nat, O = X' &&& (M1 + 1 - 1) := ⟨_, rfl⟩
      have lO : O ≤ M1 := by rw [hO]; exact Nat.and_le_right
      have eAnd : bits .and .u64 (X' : Int) (M1 : Int) = (O : Int) := by
        rw [bits_and_u64_nat _ _ lX (by omega), hO]; rfl
      have HO := Lib.hid hO
      have hst := E.out
      clear hO hX' R0 E KNX
      by_cases hLO : L ≤ O
      · obtain ⟨o, ho⟩ : ∃ o, O - L = o := ⟨_, rfl⟩
        have hw9 : IntKind.i64.wrap ((O : Int) - (L : Int)) = (o : Int) := by rw [IntWalk.i64_in _ (by omega)]; omega
        have hd2 : decide ((L : Int) ≤ (O : Int)) = true := decide_eq_true (by omega)
        rw [bst_step (o := o) HX.out HO.out (by rw [if_pos hLO]; exact ho)] at hst
        have HST := Lib.hid hst
        clear hst HO
        go_wp2_with fail
        refine KX.out.mono ?_
        rintro e w2 ⟨rfl, hw2⟩
        rw [← hw2] at RX
        clear KX hw2
        have hsz := RX.out.2.2.1
        obtain ⟨y1, hy1⟩ := enc_ex d2[i]!
        obtain ⟨y2, hy2⟩ := enc_ex d2[a + o]!
        have f1 : w2.cell? ⟨B, i, none⟩ = some (.float .f64 y1) := by rw [← hy1]; exact RX.out.1.cell (i) (by omega)
        have f2 : w2.cell? ⟨B, a + o, none⟩ = some (.float .f64 y2) := by rw [← hy2]; exact RX.out.1.cell (a + o) (by omega)
        have g1 := RX.out.1.frozen (i)
        have g2 := RX.out.1.frozen (a + o)
        obtain ⟨v3, u3⟩ := RX.out.1.third (i) (a + o) (by omega) (by omega) d2[a + o]!
        have S := Lib.hid (RX.out.1.swapped (i) (a + o) (by omega) (by omega))
        rw [hy2] at u3
        rw [hy1, hy2] at S
        clear hy1 hy2
        go_wp2_with fail
        go_region
        have R4 := Lib.hid (show Rw enc T tl _ B (Sort.swp d2 (i) (a + o)) ∧ But B w _ ∧ (Sort.swp d2 (i) (a + o)).size = n from ⟨S.out.1, RX.out.2.1.trans S.out.2, by rw [Sort.size_swp]; exact RX.out.2.2.1⟩)
        have RC := Lib.hid (RX.out.2.2.2.but S.out.2 hSB)
        clear f1 f2 g1 g2 u3 S RX 
        go_wp2
        go_roundw
        case rel => exact ⟨i + 1, r, Sort.xorNext x, Sort.swp d2 i (a + o), by omega, by omega, by go_num, HST, Lib.hid ⟨R4.out.1, R4.out.2.1, R4.out.2.2, by rw [← HX.out]; exact RC.out⟩⟩
        case measure => simp [intOf]; omega
      · obtain ⟨o, ho⟩ : ∃ o, O = o := ⟨_, rfl⟩
        have hd2 : decide ((L : Int) ≤ (O : Int)) = false := decide_eq_false (by omega)
        rw [bst_step (o := o) HX.out HO.out (by rw [if_neg hLO]; exact ho)] at hst
        rw [ho] at eAnd hd2
        have HST := Lib.hid hst
        clear hst HO
        go_wp2_with fail
        refine KX.out.mono ?_
        rintro e w2 ⟨rfl, hw2⟩
        rw [← hw2] at RX
        clear KX hw2
        have hsz := RX.out.2.2.1
        obtain ⟨y1, hy1⟩ := enc_ex d2[i]!
        obtain ⟨y2, hy2⟩ := enc_ex d2[a + o]!
        have f1 : w2.cell? ⟨B, i, none⟩ = some (.float .f64 y1) := by rw [← hy1]; exact RX.out.1.cell (i) (by omega)
        have f2 : w2.cell? ⟨B, a + o, none⟩ = some (.float .f64 y2) := by rw [← hy2]; exact RX.out.1.cell (a + o) (by omega)
        have g1 := RX.out.1.frozen (i)
        have g2 := RX.out.1.frozen (a + o)
        obtain ⟨v3, u3⟩ := RX.out.1.third (i) (a + o) (by omega) (by omega) d2[a + o]!
        have S := Lib.hid (RX.out.1.swapped (i) (a + o) (by omega) (by omega))
        rw [hy2] at u3
        rw [hy1, hy2] at S
        clear hy1 hy2
        go_wp2_with fail
        go_region
        have R4 := Lib.hid (show Rw enc T tl _ B (Sort.swp d2 (i) (a + o)) ∧ But B w _ ∧ (Sort.swp d2 (i) (a + o)).size = n from ⟨S.out.1, RX.out.2.1.trans S.out.2, by rw [Sort.size_swp]; exact RX.out.2.2.1⟩)
        have RC := Lib.hid (RX.out.2.2.2.but S.out.2 hSB)
        clear f1 f2 g1 g2 u3 S RX 
        go_wp2
        go_roundw
        case rel => exact ⟨i + 1, r, Sort.xorNext x, Sort.swp d2 i (a + o), by omega, by omega, by go_num, HST, Lib.hid ⟨R4.out.1, R4.out.2.1, R4.out.2.2, by rw [← HX.out]; exact RC.out⟩⟩
        case measure => simp [intOf]; omega
end Go.Proofs.YtjjcoblbiagflaaGreat.kf
