/- Counts of the walk's own; the example. -/
import Derived.Test.YtfhpckglckcdjaaDoorTx
namespace Go.Proofs.YtfhpckglckcdjaaDoor
open Go.RowKit Go.Proofs.Lx

/-- The counts N lie in block b, which the walk has made; all that was there is as it was. -/
structure St (w w' : World) (b : Nat) (N : List Nat) : Prop where
  cn : Cn w' b N
  bel : Below w.heap.size w w'
  own : w.heap.size ≤ b
section
variable {w wi wj : World} {b : Nat} {N M : List Nat}
theorem St.below (s : St w wi b N) (h : Below wi.heap.size wi wj) : St w wj b N := ⟨s.cn.below h, s.bel.trans (h.mono s.bel.size), s.own⟩
theorem St.but (s : St w wi b N) (h : Cn wj b M) (hb : But b wi wj) : St w wj b M := ⟨h, s.bel.trans (hb.below s.bel.size s.own), s.own⟩
theorem St.cs (s : St w wi b N) : Cs wi (some ⟨b, 0, none⟩) N := .inr ⟨b, rfl, s.cn⟩
theorem St.new (w : World) : St w (w.alloc (.cells (cellsN zeros) 47)) w.heap.size zeros := ⟨heap_alloc_new w _, bel_alloc _ _, Nat.le_refl _⟩
theorem St.pow (s : St w wi b N) (h : Pow w) : Pow wi := h.below s.bel (Nat.le_refl _)
end
theorem add_st {w wi : World} {b : Nat} {N : List Nat} (s : St w wi b N) (i : Nat) (hi : i < 13) (hN : Fit N) : Calls Tryd.prog 9 #[.pointer (some ⟨b, 0, none⟩), .int .i64 i] wi fun e w' => e = .returned (.int .i64 0) ∧ St w w' b (bump N i) :=
  (add_in b i N wi hi hN s.cn).mono fun _ _ ⟨he, hc, hb⟩ => ⟨he, s.but hc hb⟩
theorem add_zero {w wi : World} {b : Nat} {N : List Nat} (s : St w wi b N) (hN : Fit N) : Calls Tryd.prog 9 #[.pointer (some ⟨b, 0, none⟩), .int .i64 0] wi fun e w' => e = .returned (.int .i64 0) ∧ St w w' b (bump N 0) := add_st s 0 (by decide) hN
theorem add_eight {w wi : World} {b : Nat} {N : List Nat} (s : St w wi b N) (hN : Fit N) : Calls Tryd.prog 9 #[.pointer (some ⟨b, 0, none⟩), .int .i64 8] wi fun e w' => e = .returned (.int .i64 0) ∧ St w w' b (bump N 8) := add_st s 8 (by decide) hN
def exN : List Nat := bump (bump (bump zeros 0) 8) 0
theorem ex_fit1 : Fit (bump zeros 0) := ⟨by decide, by decide⟩
theorem ex_fit2 : Fit (bump (bump zeros 0) 8) := ⟨by decide, by decide⟩
theorem ex_fit : Fit exN := ⟨by decide, by decide⟩
theorem ex_text : textN exN = [116, 97, 107, 101, 110, 32, 50, 44, 32, 107, 105, 115, 115, 32, 49] := by
  have e : exN = [2, 0, 0, 0, 0, 0, 0, 0, 1, 0, 0, 0, 0] := by decide
  rw [e]
  simp [textN, partsF, prt, Lib.decDigits_one, Lib.join_cons, Lib.joinTail, SEP, nameAt, nameL]
theorem ex_ref : refN exN = 1 := by decide
theorem alive_any (w : World) (ht : Pow w) : Calls Tryd.prog 8 #[] w fun e w' => e = .returned (.bool true) ∧ Below w.heap.size w w' := by
  have HT := Lib.hid ht
  clear ht
  go_enter Tryd.func8, Tryd.ntmps8
  go_wp2_with fail
  refine (new_any _).mono ?_
  rintro e w1 ⟨rfl, hw1⟩
  have S1 : Hid (St w w1 w.heap.size zeros) := by rw [hw1]; exact St.new w
  clear hw1
  go_wp2_with fail
  refine (add_zero S1.out fit_zeros).mono ?_
  rintro e w2 ⟨rfl, s2⟩
  have S2 := Lib.hid s2
  clear s2 S1
  go_wp2_with fail
  refine (add_eight S2.out ex_fit1).mono ?_
  rintro e w3 ⟨rfl, s3⟩
  have S3 := Lib.hid s3
  clear s3 S2
  go_wp2_with fail
  refine (add_zero S3.out ex_fit2).mono ?_
  rintro e w4 ⟨rfl, s4⟩
  have S4 := Lib.hid (show St w w4 w.heap.size exN from s4)
  clear s4 S3
  have KT := Lib.hid (text_any _ exN w4 ex_fit S4.out.cs (S4.out.pow HT.out))
  have hx : txtS exN = ⟨#[116, 97, 107, 101, 110, 32, 50, 44, 32, 107, 105, 115, 115, 32, 49]⟩ := by unfold txtS; rw [ex_text]
  rw [hx] at KT
  clear hx
  go_wp2_with fail
  refine KT.out.mono ?_
  rintro e w5 ⟨rfl, h5⟩
  have S5 := Lib.hid (S4.out.below h5)
  clear h5 S4 KT
  have KR := Lib.hid (refused_any _ exN w5 ex_fit S5.out.cs)
  rw [ex_ref] at KR
  go_wp2_with fail
  refine KR.out.mono ?_
  rintro e w6 ⟨rfl, h6⟩
  have S6 := Lib.hid (S5.out.below h6)
  clear h6 S5 KR
  go_wp2
  go_ret
  exact ⟨rfl, S6.out.bel⟩
end Go.Proofs.YtfhpckglckcdjaaDoor
