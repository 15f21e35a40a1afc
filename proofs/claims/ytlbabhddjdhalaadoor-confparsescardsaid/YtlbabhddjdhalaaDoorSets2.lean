/- What words do to a config in memory. -/
import Derived.Test.YtlbabhddjdhalaaDoorSets
namespace Go.Proofs.YtlbabhddjdhalaaDoor
open Go.RowKit Go.Proofs.Lx

theorem still_tail {P : Program} {id : Nat} {Q : Exit → Act → World → Prop} {a : Act} {w : World} {l : List Oper} (n : Nat) (hm : P.follows .mixedOrders = true) (hB : Region.lexTailB .any l.toArray n = true)
    (h : wpStill P l.toArray w.drew (fun a' => wpList P l.toArray Q (l.drop n) a' w.drew) (l.take n) a) : (Code.region id l.toArray true).wp P Q a w :=
  wp_region_still_tail n hm hB h

/-- All blocks below H but one are as they were, and so are all others that hold no numbers. -/
structure Kp (H bc : Nat) (w w' : World) : Prop where
  os : w'.os = w.os
  tape : w'.tape = w.tape
  output : w'.output = w.output
  size : w.heap.size ≤ w'.heap.size
  block : ∀ k, k < H → k ≠ bc → w'.heap[k]? = w.heap[k]?
  others : Lib.OthersKept 3 (some bc) w w'
theorem Kp.refl (H bc : Nat) (w : World) : Kp H bc w w := ⟨rfl, rfl, rfl, Nat.le_refl _, fun _ _ _ => rfl, Lib.OthersKept.refl _ _ _⟩
theorem Kp.of_below {H bc B : Nat} {w w' : World} (h : Below B w w') (hB : H ≤ B) (hw : w.heap.size ≤ B) : Kp H bc w w' := ⟨h.os, h.tape, h.output, h.size, fun k hk _ => h.block k (by omega), fun k o hk _ _ => (h.block k (by have := (Array.getElem?_eq_some_iff.1 hk).1; omega)).trans hk⟩
theorem Kp.trans {H bc : Nat} {a b c : World} (h : Kp H bc a b) (k : Kp H bc b c) : Kp H bc a c := ⟨k.os.trans h.os, k.tape.trans h.tape, k.output.trans h.output, Nat.le_trans h.size k.size, fun i hi hn => (k.block i hi hn).trans (h.block i hi hn), h.others.trans k.others⟩
theorem Kp.drew {H bc : Nat} {a b : World} (h : Kp H bc a b) : Kp H bc a b.drew := ⟨h.os, h.tape, h.output, h.size, h.block, h.others⟩
theorem Kp.setCell {H bc : Nat} {a b : World} (h : Kp H bc a b) (o : Nat) (v : Value) : Kp H bc a (b.setCell ⟨bc, o, none⟩ v) := by
  refine ⟨h.os, h.tape, h.output, by simpa [World.setCell] using h.size, fun k hk hn => ?_, fun k x hk hn ht => ?_⟩
  · rw [Below.heap_setCell _ _ _ _ (by exact hn)]
    exact h.block k hk hn
  · rw [Below.heap_setCell _ _ _ _ (by exact fun e => hn (by rw [e]))]
    exact h.others k x hk hn ht
theorem Kp.grown {H bc : Nat} {a b c : World} (h : Kp H bc a b) {n : Nat} {v : Value} {xs : List Value} (hr : b.ownsRow H 3 1 v n xs) (hg : b.grownBy c v.ownBlock) (hH : H ≤ b.heap.size) : Kp H bc a c := by
  refine ⟨hg.os.trans h.os, hg.tape.trans h.tape, hg.output.trans h.output, Nat.le_trans h.size hg.size, fun k hk hn => (hg.block k (by omega) (fun e => by have := (hr.lt k e.symm).1; omega)).trans (h.block k hk hn), fun k o hk hn ht => ?_⟩
  have hb := h.others k o hk hn ht
  rw [hg.block k (Array.getElem?_eq_some_iff.1 hb).1 (fun e => ?_)]
  · exact hb
  · rcases hr.2 with ⟨rfl, _⟩ | ⟨g, cap, cur, rfl, _, hgb, _⟩
    · simp [Value.ownBlock] at e
    · simp only [Value.ownBlock, Option.some.injEq] at e
      subst e
      rw [hb] at hgb
      injection hgb with hgb
      exact ht _ _ hgb

/-- The config c lies in block bc, its servers in a row of the call's own from base on. -/
def Cell (w : World) (base bc : Nat) (c : Cfg) : Prop := ∃ v, w.heap[bc]? = some (.cells #[v, .int .i64 c.q, .int .i64 c.l, .int .i64 c.m, .int .i64 c.d, .int .i64 c.s] 24 (0, 0)) ∧ Row w base v c.S
theorem Cell.lt {w : World} {base bc : Nat} {c : Cfg} (h : Cell w base bc c) : bc < w.heap.size := by
  obtain ⟨v, h, _⟩ := h; exact (Array.getElem?_eq_some_iff.1 h).1
theorem Cell.below {w w' : World} {base bc B : Nat} {c : Cfg} (h : Cell w base bc c) (hb : Below B w w') (hB : w.heap.size ≤ B) : Cell w' base bc c := by
  have hlt := h.lt
  obtain ⟨v, h1, h2⟩ := h
  exact ⟨v, (hb.block bc (by omega)).trans h1, h2.below hb hB⟩
theorem row_set {w : World} {base bc o : Nat} {v u : Value} {xs : List Int} (h : Row w base v xs) (hlt : bc < base) : Row (w.setCell ⟨bc, o, none⟩ u) base v xs := by
  refine ⟨h.1, ?_⟩
  rcases h.2 with h0 | ⟨g, cap, cur, hv, hb', hg, rest⟩
  · exact .inl h0
  · refine .inr ⟨g, cap, cur, hv, hb', ?_, rest⟩
    rw [Below.heap_setCell _ _ _ _ (by simp; omega)]; exact hg
theorem cell_set1 {w : World} {base bc : Nat} {c : Cfg} (h : Cell w base bc c) (hlt : bc < base) (x : Int) : Cell (w.setCell ⟨bc, 1, none⟩ (.int .i64 x)) base bc { c with q := x } := by
  obtain ⟨v, h1, h2⟩ := h
  exact ⟨v, by rw [heap_setCell_same _ _ _ _ _ _ h1]; rfl, row_set h2 hlt⟩
theorem cell_set2 {w : World} {base bc : Nat} {c : Cfg} (h : Cell w base bc c) (hlt : bc < base) (x : Int) : Cell (w.setCell ⟨bc, 2, none⟩ (.int .i64 x)) base bc { c with l := x } := by
  obtain ⟨v, h1, h2⟩ := h
  exact ⟨v, by rw [heap_setCell_same _ _ _ _ _ _ h1]; rfl, row_set h2 hlt⟩
theorem cell_set3 {w : World} {base bc : Nat} {c : Cfg} (h : Cell w base bc c) (hlt : bc < base) (x : Int) : Cell (w.setCell ⟨bc, 3, none⟩ (.int .i64 x)) base bc { c with m := x } := by
  obtain ⟨v, h1, h2⟩ := h
  exact ⟨v, by rw [heap_setCell_same _ _ _ _ _ _ h1]; rfl, row_set h2 hlt⟩
theorem cell_set4 {w : World} {base bc : Nat} {c : Cfg} (h : Cell w base bc c) (hlt : bc < base) (x : Int) : Cell (w.setCell ⟨bc, 4, none⟩ (.int .i64 x)) base bc { c with d := x } := by
  obtain ⟨v, h1, h2⟩ := h
  exact ⟨v, by rw [heap_setCell_same _ _ _ _ _ _ h1]; rfl, row_set h2 hlt⟩
theorem cell_set5 {w : World} {base bc : Nat} {c : Cfg} (h : Cell w base bc c) (hlt : bc < base) (x : Int) : Cell (w.setCell ⟨bc, 5, none⟩ (.int .i64 x)) base bc { c with s := x } := by
  obtain ⟨v, h1, h2⟩ := h
  exact ⟨v, by rw [heap_setCell_same _ _ _ _ _ _ h1]; rfl, row_set h2 hlt⟩
/-- What the walk reads and writes of a config. -/
theorem Cell.facts {w : World} {base bc : Nat} {c : Cfg} (h : Cell w base bc c) : ∃ A cp, c.S.length ≤ cp ∧ w.heap[bc]? = some (.cells #[.slice A c.S.length cp, .int .i64 c.q, .int .i64 c.l, .int .i64 c.m, .int .i64 c.d, .int .i64 c.s] 24 (0, 0)) ∧ Row w base (.slice A c.S.length cp) c.S ∧
    w.cell? ⟨bc, 0, none⟩ = some (.slice A c.S.length cp) ∧ w.cell? ⟨bc, 1, none⟩ = some (.int .i64 c.q) ∧ w.cell? ⟨bc, 2, none⟩ = some (.int .i64 c.l) ∧ w.cell? ⟨bc, 3, none⟩ = some (.int .i64 c.m) ∧ w.cell? ⟨bc, 4, none⟩ = some (.int .i64 c.d) ∧ w.cell? ⟨bc, 5, none⟩ = some (.int .i64 c.s) ∧ ∀ j, w.frozen? ⟨bc, j, none⟩ = false := by
  obtain ⟨v, h1, h2⟩ := h
  obtain ⟨A, cp, rfl, hc⟩ := own_len h2
  refine ⟨A, cp, hc, h1, h2, ?_, ?_, ?_, ?_, ?_, ?_, fun j => Lib.frozen_of_heap h1 j⟩
  all_goals (rw [Lib.cell_of_heap h1]; rfl)

def SetPost (w : World) (H bc : Nat) (c : Cfg) (e : Ending) (w' : World) : Prop := e = .returned (.tuple #[]) ∧ Cell w' H bc c ∧ Kp H bc w w'

set_option maxRecDepth 100000 in
set_option maxHeartbeats 1000000 in
theorem setQ_any (v : Value) (n : List Int) (bx bc H : Nat) (c : Cfg) (w : World) (hv : Ints w v n) (hn : n.length = 1) (hx : w.cell? ⟨bx, 0, none⟩ = some (.pointer (some ⟨bc, 0, none⟩))) (hc : Cell w H bc c) (hlt : bc < H) :
    Calls Tryd.prog 52 #[v, .pointer (some ⟨bx, 0, none⟩)] w fun e w' => SetPost w H bc (setQ c n) e w' := by
  obtain ⟨x, rfl⟩ : ∃ x, n = [x] := List.length_eq_one_iff.1 hn
  obtain ⟨A, cp, rfl, hcp⟩ := hv.len
  obtain ⟨g, o, rfl, hg, hcell⟩ := hv.at_ 0 (by simp)
  simp only [List.length_cons, List.length_nil, Nat.zero_add, List.getElem_cons_zero, Nat.add_zero] at hcell hcp ⊢
  obtain ⟨A, cq, _, hb, _, c0, c1, c2, c3, c4, c5, hf⟩ := hc.facts
  have f1 := hf 1
  have HC := Lib.hid hc
  clear hc hf hv c0 c2 c3 c4 c5 hb
  go_enter Tryd.func52, Tryd.ntmps52
  go_wp2_with fail
  refine still_tail 6 (by kernel_rfl) (by kernel_rfl) ?_
  simp only [List.take_succ_cons, List.take_zero, List.drop_succ_cons, List.drop_zero]
  repeat still_step
  refine wpStill_nil ?_
  go_wp2
  go_end0
  exact ⟨rfl, cell_set1 HC.out hlt x, ((Kp.refl H bc w).setCell _ _).drew⟩
set_option maxRecDepth 100000 in
set_option maxHeartbeats 1000000 in
theorem setD_any (v : Value) (n : List Int) (bx bc H : Nat) (c : Cfg) (w : World) (hv : Ints w v n) (hn : n.length = 1) (hx : w.cell? ⟨bx, 0, none⟩ = some (.pointer (some ⟨bc, 0, none⟩))) (hc : Cell w H bc c) (hlt : bc < H) :
    Calls Tryd.prog 54 #[v, .pointer (some ⟨bx, 0, none⟩)] w fun e w' => SetPost w H bc (setD c n) e w' := by
  obtain ⟨x, rfl⟩ : ∃ x, n = [x] := List.length_eq_one_iff.1 hn
  obtain ⟨A, cp, rfl, hcp⟩ := hv.len
  obtain ⟨g, o, rfl, hg, hcell⟩ := hv.at_ 0 (by simp)
  simp only [List.length_cons, List.length_nil, Nat.zero_add, List.getElem_cons_zero, Nat.add_zero] at hcell hcp ⊢
  obtain ⟨A, cq, _, hb, _, c0, c1, c2, c3, c4, c5, hf⟩ := hc.facts
  have f1 := hf 4
  have HC := Lib.hid hc
  clear hc hf hv c0 c1 c2 c3 c5 hb
  go_enter Tryd.func54, Tryd.ntmps54
  go_wp2_with fail
  refine still_tail 6 (by kernel_rfl) (by kernel_rfl) ?_
  simp only [List.take_succ_cons, List.take_zero, List.drop_succ_cons, List.drop_zero]
  repeat still_step
  refine wpStill_nil ?_
  go_wp2
  go_end0
  exact ⟨rfl, cell_set4 HC.out hlt x, ((Kp.refl H bc w).setCell _ _).drew⟩
set_option maxRecDepth 100000 in
set_option maxHeartbeats 1000000 in
theorem setSl_any (v : Value) (n : List Int) (bx bc H : Nat) (c : Cfg) (w : World) (hv : Ints w v n) (hn : n.length = 1) (hx : w.cell? ⟨bx, 0, none⟩ = some (.pointer (some ⟨bc, 0, none⟩))) (hc : Cell w H bc c) (hlt : bc < H) :
    Calls Tryd.prog 55 #[v, .pointer (some ⟨bx, 0, none⟩)] w fun e w' => SetPost w H bc (setSl c n) e w' := by
  obtain ⟨x, rfl⟩ : ∃ x, n = [x] := List.length_eq_one_iff.1 hn
  obtain ⟨A, cp, rfl, hcp⟩ := hv.len
  obtain ⟨g, o, rfl, hg, hcell⟩ := hv.at_ 0 (by simp)
  simp only [List.length_cons, List.length_nil, Nat.zero_add, List.getElem_cons_zero, Nat.add_zero] at hcell hcp ⊢
  obtain ⟨A, cq, _, hb, _, c0, c1, c2, c3, c4, c5, hf⟩ := hc.facts
  have f1 := hf 5
  have HC := Lib.hid hc
  clear hc hf hv c0 c1 c2 c3 c4 hb
  go_enter Tryd.func55, Tryd.ntmps55
  go_wp2_with fail
  refine still_tail 6 (by kernel_rfl) (by kernel_rfl) ?_
  simp only [List.take_succ_cons, List.take_zero, List.drop_succ_cons, List.drop_zero]
  repeat still_step
  refine wpStill_nil ?_
  go_wp2
  go_end0
  exact ⟨rfl, cell_set5 HC.out hlt x, ((Kp.refl H bc w).setCell _ _).drew⟩
set_option maxRecDepth 100000 in
set_option maxHeartbeats 1000000 in
theorem setP_any (v : Value) (n : List Int) (bx bc H : Nat) (c : Cfg) (w : World) (hv : Ints w v n) (hn : n.length = 2) (hx : w.cell? ⟨bx, 0, none⟩ = some (.pointer (some ⟨bc, 0, none⟩))) (hc : Cell w H bc c) (hlt : bc < H) :
    Calls Tryd.prog 53 #[v, .pointer (some ⟨bx, 0, none⟩)] w fun e w' => SetPost w H bc (setP c n) e w' := by
  obtain ⟨x, y, rfl⟩ : ∃ x y, n = [x, y] := by
    match n, hn with
    | [x, y], _ => exact ⟨x, y, rfl⟩
  obtain ⟨A, cp, rfl, hcp⟩ := hv.len
  obtain ⟨g, o, rfl, hg, hcell⟩ := hv.at_ 0 (by simp)
  obtain ⟨g', o', e', _, hcell2⟩ := hv.at_ 1 (by simp)
  obtain ⟨rfl, rfl⟩ : g = g' ∧ o = o' := by injection e' with e'; injection e' with e1 e2; exact ⟨e1, e2⟩
  clear e'
  simp only [List.length_cons, List.length_nil, Nat.zero_add, List.getElem_cons_zero, List.getElem_cons_succ, Nat.add_zero, Nat.reduceAdd] at hcell hcell2 hcp ⊢
  obtain ⟨A, cq, _, hb, _, c0, c1, c2, c3, c4, c5, hf⟩ := hc.facts
  have f2 := hf 2
  have f3 := hf 3
  have HC := Lib.hid hc
  clear hc hf hv c0 c1 c4 c5
  go_enter Tryd.func53, Tryd.ntmps53
  go_wp2_with fail
  have d3 : (w.setCell ⟨bc, 2, none⟩ (.int .i64 x)).cell? ⟨bc, 3, none⟩ = some (.int .i64 c.m) := by rw [World.cell?_setCell_other _ _ _ _ (by simp)]; exact c3
  have g3 : (w.setCell ⟨bc, 2, none⟩ (.int .i64 x)).frozen? ⟨bc, 3, none⟩ = false := Lib.frozen_of_heap (heap_setCell_same _ _ _ _ _ _ hb) 3
  go_region
  all_goals go_wp2
  go_end0
  exact ⟨rfl, cell_set3 (cell_set2 HC.out hlt x) hlt y, (((Kp.refl H bc w).setCell _ _).setCell _ _).drew⟩
end Go.Proofs.YtlbabhddjdhalaaDoor
