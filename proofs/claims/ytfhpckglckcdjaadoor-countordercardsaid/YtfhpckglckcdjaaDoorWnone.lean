/- CountNone: of no counts nothing is told. -/
import Derived.Test.YtfhpckglckcdjaaDoorAlive
import Derived.ProofKit
namespace Go.Proofs.YtfhpckglckcdjaaDoor
open Go.RowKit Go.Proofs.Lx

theorem cs_nil (w : World) : Cs w none zeros := .inl ⟨rfl, rfl⟩
theorem of_nil (z : Int) (w : World) : Calls Tryd.prog 10 #[.pointer none, .int .i64 z] w fun e w' => e = .returned (.int .i64 0) ∧ Below w.heap.size w w' := by
  have := of_any none zeros z w rfl (cs_nil w)
  have e : ofN zeros z = 0 := by
    unfold ofN
    split
    · rename_i h
      obtain ⟨i, rfl⟩ : ∃ i : Nat, z = i := ⟨z.toNat, by omega⟩
      have : ∀ i, i < 13 → zeros.getD i 0 = 0 := by decide
      exact this _ (by omega)
    · rfl
  rw [e] at this
  exact this
theorem text_zeros : txtS zeros = ⟨#[]⟩ := rfl
theorem refused_nil (w : World) : Calls Tryd.prog 11 #[.pointer none] w fun e w' => e = .returned (.int .i64 0) ∧ Below w.heap.size w w' := refused_any none zeros w fit_zeros (cs_nil w)
theorem text_nil (w : World) (ht : Pow w) : Calls Tryd.prog 12 #[.pointer none] w fun e w' => e = .returned (.string ⟨#[]⟩) ∧ Below w.heap.size w w' := by
  have := text_any none zeros w fit_zeros (cs_nil w) ht
  rw [text_zeros] at this
  exact this
theorem bump_ne (N : List Nat) (i : Nat) (h : i < N.length) : (N == bump N i) = false := by
  rw [beq_eq_false_iff_ne]
  intro e
  have := bump_sum N i h
  rw [← e] at this
  omega
theorem add_c (z : Int) {w wi : World} {b : Nat} {N : List Nat} (s : St w wi b N) (hN : Fit N) :
    Calls Tryd.prog 9 #[.pointer (some ⟨b, 0, none⟩), .int .i64 z] wi fun e w' => (0 ≤ z ∧ z < 13 ∧ e = .returned (.int .i64 0) ∧ St w w' b (bump N z.toNat)) ∨ (¬ (0 ≤ z ∧ z < 13) ∧ e = .returned (.int .i64 10) ∧ w' = wi) := by
  by_cases h : 0 ≤ z ∧ z < 13
  · obtain ⟨i, rfl⟩ : ∃ i : Nat, z = i := ⟨z.toNat, by omega⟩
    refine (add_st s i (by omega) hN).mono ?_
    rintro e w' ⟨rfl, s'⟩
    exact .inl ⟨h.1, h.2, rfl, s'⟩
  · refine (add_out b z wi h).mono ?_
    rintro e w' ⟨rfl, rfl⟩
    exact .inr ⟨h, rfl, rfl⟩

set_option maxRecDepth 100000 in
set_option maxHeartbeats 4000000 in
theorem walk_countNone (a0 : Int) (w : World) (_ : (Lit.int .i64 a0).wf = true) (ht : Pow w) :
    Calls Tryd.prog 4 #[.int .i64 a0] w fun e w' => e = .returned (.bool true) ∧ Below w.heap.size w w' := by
  have HT := Lib.hid ht
  clear ht
  go_enter Tryd.func4, Tryd.ntmps4
  go_wp2_with fail
  refine (new_any _).mono ?_
  rintro e w1 ⟨rfl, hw1⟩
  have S1 : Hid (St w w1 w.heap.size zeros) := by rw [hw1]; exact St.new w
  clear hw1
  go_wp2_with fail
  refine (add_nil _ _).mono ?_
  rintro e w2 ⟨rfl, rfl⟩
  go_wp2_with fail
  refine (of_nil _ _).mono ?_
  rintro e w2 ⟨rfl, h2⟩
  have S2 := Lib.hid (S1.out.below h2)
  clear h2 S1
  go_wp2_with fail
  refine (refused_nil _).mono ?_
  rintro e w3 ⟨rfl, h3⟩
  have S3 := Lib.hid (S2.out.below h3)
  clear h3 S2
  go_wp2_with fail
  refine (text_nil _ (S3.out.pow HT.out)).mono ?_
  rintro e w4 ⟨rfl, h4⟩
  have S4 := Lib.hid (S3.out.below h4)
  clear h4 S3
  have K := Lib.hid (same_any none _ zeros zeros w4 rfl rfl (cs_nil _) S4.out.cs)
  rw [show (zeros == zeros) = true by decide] at K
  go_wp2_with fail
  refine K.out.mono ?_
  rintro e w5 ⟨rfl, h5⟩
  have S5 := Lib.hid (S4.out.below h5)
  clear h5 S4 K
  have K := Lib.hid (same_any _ none zeros zeros w5 rfl rfl S5.out.cs (cs_nil _))
  rw [show (zeros == zeros) = true by decide] at K
  go_wp2_with fail
  refine K.out.mono ?_
  rintro e w6 ⟨rfl, h6⟩
  have S6 := Lib.hid (S5.out.below h6)
  clear h6 S5 K
  have K := Lib.hid (same_any none none zeros zeros w6 rfl rfl (cs_nil _) (cs_nil _))
  rw [show (zeros == zeros) = true by decide] at K
  go_wp2_with fail
  refine K.out.mono ?_
  rintro e w7 ⟨rfl, h7⟩
  have S7 := Lib.hid (S6.out.below h7)
  clear h7 S6 K
  have K := Lib.hid (text_any _ zeros w7 fit_zeros S7.out.cs (S7.out.pow HT.out))
  rw [text_zeros] at K
  go_wp2_with fail
  refine K.out.mono ?_
  rintro e w8 ⟨rfl, h8⟩
  have S8 := Lib.hid (S7.out.below h8)
  clear h8 S7 K
  go_wp2_with fail
  refine (add_c a0 S8.out fit_zeros).mono ?_
  rintro e w9 (⟨hz1, hz2, rfl, s9⟩ | ⟨hz, rfl, rfl⟩)
  · have S9 := Lib.hid s9
    clear s9 S8
    go_wp2_with fail
    refine (alive_any _ (S9.out.pow HT.out)).mono ?_
    rintro e w10 ⟨rfl, h10⟩
    have S10 := Lib.hid (S9.out.below h10)
    clear h10 S9
    have K := Lib.hid (same_any none _ zeros _ w10 rfl (by rw [bump_len]; rfl) (cs_nil _) S10.out.cs)
    rw [bump_ne zeros a0.toNat (by rw [fit_zeros.len]; omega)] at K
    go_wp2_with fail
    refine K.out.mono ?_
    rintro e w11 ⟨rfl, h11⟩
    have S11 := Lib.hid (S10.out.below h11)
    clear h11 S10 K
    go_wp2
    go_ret
    exact ⟨rfl, S11.out.bel⟩
  · go_wp2_with fail
    refine (alive_any _ (S8.out.pow HT.out)).mono ?_
    rintro e w10 ⟨rfl, h10⟩
    have S10 := Lib.hid (S8.out.below h10)
    clear h10 S8
    have K := Lib.hid (same_any none _ zeros _ w10 rfl rfl (cs_nil _) S10.out.cs)
    rw [show (zeros == zeros) = true by decide] at K
    go_wp2_with fail
    refine K.out.mono ?_
    rintro e w11 ⟨rfl, h11⟩
    have S11 := Lib.hid (S10.out.below h11)
    clear h11 S10 K
    go_wp2
    go_ret
    exact ⟨rfl, S11.out.bel⟩
end Go.Proofs.YtfhpckglckcdjaaDoor
