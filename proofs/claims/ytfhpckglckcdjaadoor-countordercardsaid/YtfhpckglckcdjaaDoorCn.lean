/- Counts in memory; the small calls of package count. -/
import Derived.Test.YtfhpckglckcdjaaDoorProg
import Derived.Test.YtfhpckglckcdjaaDoorEqa
import Derived.WalkKit
import Derived.WalkSpells
import Derived.Below
import Derived.StillTailTactics
import Derived.BigQuiet
import Derived.Lib.QuietBelow
import Derived.Laws.Tables
import Derived.Lib.Hide
namespace Go.Proofs.YtfhpckglckcdjaaDoor
open Go.RowKit Go.Proofs.Lx

/-- All blocks but one are as they were. -/
structure But (b : Nat) (w w' : World) : Prop where
  os : w'.os = w.os
  tape : w'.tape = w.tape
  output : w'.output = w.output
  size : w.heap.size ≤ w'.heap.size
  block : ∀ j, j < w.heap.size → j ≠ b → w'.heap[j]? = w.heap[j]?
theorem But.of_below {b : Nat} {w w' : World} (h : Below w.heap.size w w') : But b w w' := ⟨h.os, h.tape, h.output, h.size, fun j hj _ => h.block j hj⟩
theorem But.trans {b : Nat} {u v w : World} (h : But b u v) (g : But b v w) : But b u w := ⟨g.os.trans h.os, g.tape.trans h.tape, g.output.trans h.output, Nat.le_trans h.size g.size, fun j hj hn => (g.block j (by have := h.size; omega) hn).trans (h.block j hj hn)⟩
theorem But.below {b B : Nat} {w w' : World} (h : But b w w') (h1 : B ≤ w.heap.size) (h2 : B ≤ b) : Below B w w' := ⟨h.os, h.tape, h.output, h.size, fun j hj => h.block j (by omega) (by omega)⟩
theorem But.setCell {b : Nat} {u w : World} (h : But b u w) (o : Nat) (v : Value) : But b u (w.setCell ⟨b, o, none⟩ v) :=
  ⟨h.os, h.tape, h.output, by simpa [World.setCell] using h.size, fun j hj hn => by rw [Below.heap_setCell _ _ _ _ (by exact hn)]; exact h.block j hj hn⟩
theorem heap_setCell_same (w : World) (b o : Nat) (v : Value) (cs : Array Value) (t : TypeId) (fr : Nat × Nat) (h : w.heap[b]? = some (.cells cs t fr)) : (w.setCell ⟨b, o, none⟩ v).heap[b]? = some (.cells (cs.setIfInBounds o v) t fr) := by
  simp only [World.setCell, Array.getElem?_modify, if_true]
  rw [h]
  rfl
theorem frozen_row {w : World} {b : Nat} {cs : Array Value} {t : TypeId} (hb : w.heap[b]? = some (.cells cs t (0, 0))) (j : Nat) : w.frozen? ⟨b, j, none⟩ = false := by
  simp [World.frozen?, hb]
theorem bel_trans {w wi wj : World} (h : Below w.heap.size w wi) (g : Below wi.heap.size wi wj) : Below w.heap.size w wj := h.trans (g.mono h.size)
theorem bel_but {b : Nat} {w wi wj : World} (h : Below w.heap.size w wi) (g : But b wi wj) (hb : w.heap.size ≤ b) : Below w.heap.size w wj := h.trans (g.below h.size hb)
theorem bel_alloc (w : World) (o : Obj) : Below w.heap.size w (w.alloc o) := (Below.refl _ _).alloc (Nat.le_refl _) _

/-- The numbers N lie in block b, whose type is t. -/
def Row13 (t : TypeId) (w : World) (b : Nat) (N : List Nat) : Prop := w.heap[b]? = some (.cells (cellsN N) t (0, 0))
theorem Row13.lt {t : TypeId} {w : World} {b : Nat} {N : List Nat} (h : Row13 t w b N) : b < w.heap.size := (Array.getElem?_eq_some_iff.1 h).1
theorem Row13.below {t : TypeId} {w w' : World} {b : Nat} {N : List Nat} (h : Row13 t w b N) (hb : Below w.heap.size w w') : Row13 t w' b N := (hb.block b h.lt).trans h
theorem But.row {t : TypeId} {b c : Nat} {w w' : World} {N : List Nat} (h : But b w w') (hc : Row13 t w c N) (hn : c ≠ b) : Row13 t w' c N := (h.block c hc.lt hn).trans hc
theorem Row13.cell {t : TypeId} {w : World} {b : Nat} {N : List Nat} (h : Row13 t w b N) (i : Nat) (hi : i < N.length) : w.cell? ⟨b, i, none⟩ = some (.int .i64 (N.getD i 0 : Nat)) := by
  rw [cell_of_row _ _ i _ _ _ h, cells_at N i hi]
/-- The counts N lie in block b. -/
abbrev Cn (w : World) (b : Nat) (N : List Nat) : Prop := Row13 47 w b N
/-- Counts, or none. -/
def Cs (w : World) (P : Option Addr) (N : List Nat) : Prop := (P = none ∧ N = zeros) ∨ ∃ b, P = some ⟨b, 0, none⟩ ∧ Cn w b N
theorem Cs.below {w w' : World} {P : Option Addr} {N : List Nat} (h : Cs w P N) (hb : Below w.heap.size w w') : Cs w' P N := by
  rcases h with h | ⟨b, rfl, h⟩
  · exact .inl h
  · exact .inr ⟨b, rfl, h.below hb⟩
theorem size3 (w : World) : (sizeOf 3).run Tryd.prog w = .ok 1 w := Tryd.sizeOf3 w
theorem info45 : (Tryd.prog.info? 45).map (·.size) = some 13 := by kernel_rfl
theorem info47 : (Tryd.prog.info? 47).map (·.size) = some 13 := by kernel_rfl

theorem new_any (w : World) : Calls Tryd.prog 7 #[] w fun e w' => e = .returned (.pointer (some ⟨w.heap.size, 0, none⟩)) ∧ w' = w.alloc (.cells (cellsN zeros) 47) := by
  go_enter Tryd.func7, Tryd.ntmps7
  go_wp2
  go_ret
  exact ⟨rfl, rfl⟩
theorem isReason_any (z : Int) (w : World) : Calls Tryd.prog 17 #[.int .i64 z] w fun e w' => e = .returned (.bool (decide (0 ≤ z ∧ z < 13))) ∧ w = w' := by
  by_cases h1 : 0 ≤ z
  · have t1 : decide (0 ≤ z) = true := decide_eq_true h1
    by_cases h2 : z < 13
    · have t2 : decide (z < 13) = true := decide_eq_true h2
      rw [decide_eq_true (⟨h1, h2⟩ : 0 ≤ z ∧ z < 13)]
      go_enter Tryd.func17, Tryd.ntmps17
      go_wp2
      go_ret
      exact ⟨rfl, rfl⟩
    · have t2 : decide (z < 13) = false := decide_eq_false h2
      rw [decide_eq_false (fun h : 0 ≤ z ∧ z < 13 => h2 h.2)]
      go_enter Tryd.func17, Tryd.ntmps17
      go_wp2
      go_ret
      exact ⟨rfl, rfl⟩
  · have t1 : decide (0 ≤ z) = false := decide_eq_false h1
    rw [decide_eq_false (fun h : 0 ≤ z ∧ z < 13 => h1 h.1)]
    go_enter Tryd.func17, Tryd.ntmps17
    go_wp2
    go_ret
    exact ⟨rfl, rfl⟩
theorem all_none (w : World) : Calls Tryd.prog 18 #[.pointer none] w fun e w' => e = .returned (.agg (cellsN zeros)) ∧ Below w.heap.size w w' := by
  go_enter Tryd.func18, Tryd.ntmps18
  go_wp2
  exact bodyPost_ret (results_cell_row (g := w.heap.size) rfl _ _ 45 (cellsN zeros) (0, 0) _ rfl (heap_alloc_new w _) Tryd.underlying45 rfl info45) rfl ⟨rfl, bel_alloc _ _⟩
theorem wpList_store_res {P : Program} {ops : Array Oper} {rest : List Oper} {o : Oper} {a : Act} {w : World} {Q : Exit → Act → World → Prop} (hgd : o.guard = none) (ty : TypeId) (x y : Operand) (ho : o.op = .store ty x y)
    (g : Nat) (cells : Array Value) (hx : a.eval x = .pointer (some ⟨g, 0, none⟩)) (hy : a.eval y = .agg cells)
    (t : TypeId) (old : Array Value) (hg : w.heap[g]? = some (.cells old t (0, 0))) (hi : (P.info? ty).map (·.size) = some cells.size)
    (hold : old.size = cells.size) (h1 : cells.all (·.oneCell') = true)
    (h : ∀ W : World, W.heap[g]? = some (.cells cells t (0, 0)) → (∀ B w0, Below B w0 w → B ≤ g → Below B w0 W) → (∀ j, j ≠ g → W.heap[j]? = w.heap[j]?) → wpList P ops Q rest (a.put o.dst undef) W) : wpList P ops Q (o :: rest) a w :=
  wpList_store_row hgd ty x y ho g cells hx hy t old hg hi hold h1 (h _ (setRow_heap w g old cells t _ hg) (fun B w0 hb hB => ⟨hb.os, hb.tape, hb.output, by simpa using hb.size, fun k hk => by rw [setRow_other w g k cells (by omega)]; exact hb.block k hk⟩) (fun j hj => setRow_other w g j cells hj))
theorem all_some (b : Nat) (N : List Nat) (w : World) (hN : N.length = 13) (h : Cn w b N) : Calls Tryd.prog 18 #[.pointer (some ⟨b, 0, none⟩)] w fun e w' => e = .returned (.agg (cellsN N)) ∧ Below w.heap.size w w' := by
  have hc : (Tryd.prog.info? 45).map (·.size) = some (cellsN N).size := by rw [cells_size, hN]; exact info45
  have hs : (cellsN zeros).size = (cellsN N).size := by rw [cells_size, cells_size, hN]; rfl
  have HC := Lib.hid (And.intro hc (And.intro (cells_one N) hs))
  have H1 := Lib.hid (h.below (bel_alloc w (.cells (cellsN zeros) 45)))
  clear h hc hs
  go_enter Tryd.func18, Tryd.ntmps18
  go_wp2_with (first | refine wpList_load_row rfl 45 (.tmp 8) rfl b rfl 47 (cellsN N) (0, 0) _ H1.out Tryd.underlying45 rfl HC.out.1 ?_ | (refine wpList_store_res rfl 45 (.tmp 2) (.tmp 9) rfl w.heap.size (cellsN N) rfl rfl 45 (cellsN zeros) (heap_alloc_new w _) HC.out.1 HC.out.2.2 HC.out.2.1 ?_; intro W hW hbW hW2; have HW := Lib.hid (And.intro hW (hbW _ _ (bel_alloc w _) (Nat.le_refl _))); clear hW hbW hW2))
  exact bodyPost_ret (results_cell_row (g := w.heap.size) rfl _ _ _ _ _ _ rfl HW.out.1 Tryd.underlying45 rfl HC.out.1) rfl ⟨rfl, HW.out.2⟩
theorem all_any (P : Option Addr) (N : List Nat) (w : World) (hN : N.length = 13) (h : Cs w P N) : Calls Tryd.prog 18 #[.pointer P] w fun e w' => e = .returned (.agg (cellsN N)) ∧ Below w.heap.size w w' := by
  rcases h with ⟨rfl, rfl⟩ | ⟨b, rfl, h⟩
  · exact all_none w
  · exact all_some b N w hN h

theorem of_out (P : Option Addr) (z : Int) (w : World) (hz : ¬ (0 ≤ z ∧ z < 13)) : Calls Tryd.prog 10 #[.pointer P, .int .i64 z] w fun e w' => e = .returned (.int .i64 0) ∧ w = w' := by
  have K := isReason_any z
  rw [decide_eq_false hz] at K
  go_enter Tryd.func10, Tryd.ntmps10
  go_wp2_with fail
  refine (K _).mono ?_
  rintro e w1 ⟨rfl, rfl⟩
  go_wp2
  go_ret
  exact ⟨rfl, rfl⟩
theorem of_in (P : Option Addr) (N : List Nat) (i : Nat) (w : World) (hi : i < 13) (hN : N.length = 13) (h : Cs w P N) : Calls Tryd.prog 10 #[.pointer P, .int .i64 i] w fun e w' => e = .returned (.int .i64 (N.getD i 0 : Nat)) ∧ Below w.heap.size w w' := by
  have K := isReason_any (i : Int)
  rw [decide_eq_true (by omega : 0 ≤ (i : Int) ∧ (i : Int) < 13)] at K
  have KA := Lib.hid (all_any P N w hN h)
  have hX : ∀ w, (Instr.index 45 (.agg (cellsN N)) (.int .i64 (i : Int))).run Tryd.prog w = .ok (.int .i64 (N.getD i 0 : Nat)) w := fun w => run_index_cells w 45 3 13 Tryd.underlying45 Tryd.underlying3 size3 N hN i hi .i64 _ rfl
  clear h
  obtain ⟨n, hn⟩ : ∃ n, n = N.getD i 0 := ⟨_, rfl⟩
  rw [← hn] at hX ⊢
  obtain ⟨cs, hcs⟩ : ∃ cs, cs = cellsN N := ⟨_, rfl⟩
  rw [← hcs] at hX KA
  clear hn hcs
  go_enter Tryd.func10, Tryd.ntmps10
  go_wp2_with fail
  refine (K _).mono ?_
  rintro e w1 ⟨rfl, rfl⟩
  go_wp2_with fail
  refine KA.out.mono ?_
  rintro e w1 ⟨rfl, hb⟩
  go_wp2
  go_ret
  exact ⟨rfl, hb⟩
/-- Of: what any number's is. -/
def ofN (N : List Nat) (z : Int) : Nat := if 0 ≤ z ∧ z < 13 then N.getD z.toNat 0 else 0
theorem of_any (P : Option Addr) (N : List Nat) (z : Int) (w : World) (hN : N.length = 13) (h : Cs w P N) : Calls Tryd.prog 10 #[.pointer P, .int .i64 z] w fun e w' => e = .returned (.int .i64 (ofN N z : Nat)) ∧ Below w.heap.size w w' := by
  by_cases hz : 0 ≤ z ∧ z < 13
  · obtain ⟨i, rfl⟩ : ∃ i : Nat, z = i := ⟨z.toNat, by omega⟩
    rw [show ofN N i = N.getD i 0 by unfold ofN; rw [if_pos hz]; rfl]
    exact of_in P N i w (by omega) hN h
  · rw [show ofN N z = 0 by unfold ofN; rw [if_neg hz]]
    refine (of_out P z w hz).mono ?_
    rintro e w' ⟨rfl, rfl⟩
    exact ⟨rfl, Below.refl _ _⟩
theorem same_any (P Q : Option Addr) (N M : List Nat) (w : World) (hN : N.length = 13) (hM : M.length = 13) (h : Cs w P N) (k : Cs w Q M) : Calls Tryd.prog 14 #[.pointer P, .pointer Q] w fun e w' => e = .returned (.bool (N == M)) ∧ Below w.heap.size w w' := by
  have K1 := Lib.hid (all_any P N w hN h)
  have K2 := Lib.hid (fun w' (hb : Below w.heap.size w w') => all_any Q M w' hM (k.below hb))
  have hE : ∀ w, (Op.equalIn 10000 45 (.agg (cellsN N)) (.agg (cellsN M))).run Tryd.prog w = .ok (N == M) w := fun w => run_equalIn_cells w 9998 45 3 13 Tryd.underlying45 Tryd.underlying3 size3 N M hN hM
  obtain ⟨c, hc⟩ : ∃ c, c = (N == M) := ⟨_, rfl⟩
  rw [← hc] at hE ⊢
  clear h k
  obtain ⟨cs, hcs⟩ : ∃ cs, cs = cellsN N := ⟨_, rfl⟩
  obtain ⟨ds, hds⟩ : ∃ ds, ds = cellsN M := ⟨_, rfl⟩
  rw [← hcs] at hE K1
  rw [← hds] at hE K2
  clear hc hcs hds
  go_enter Tryd.func14, Tryd.ntmps14
  go_wp2_with fail
  refine K1.out.mono ?_
  rintro e w1 ⟨rfl, hb1⟩
  have HB := Lib.hid hb1
  have K3 := Lib.hid (K2.out w1 hb1)
  clear hb1
  go_wp2_with fail
  refine K3.out.mono ?_
  rintro e w2 ⟨rfl, hb2⟩
  go_wp2
  go_ret
  exact ⟨rfl, bel_trans HB.out hb2⟩
end Go.Proofs.YtfhpckglckcdjaaDoor
