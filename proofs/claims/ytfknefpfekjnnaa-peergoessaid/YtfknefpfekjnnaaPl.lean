/- look of package peer. -/
import Derived.Test.YtfknefpfekjnnaaPn
import Derived.Laws.Tables
namespace Go.Proofs.Ytfknefpfekjnnaa
open Go.RowKit

/-- A store over a whole block. -/
theorem wpList_store_res {P : Program} {ops : Array Oper} {rest : List Oper} {o : Oper} {a : Act} {w : World} {Q : Exit → Act → World → Prop} (hgd : o.guard = none) (ty : TypeId) (x y : Operand) (ho : o.op = .store ty x y)
    (g : Nat) (cells : Array Value) (hx : a.eval x = .pointer (some ⟨g, 0, none⟩)) (hy : a.eval y = .agg cells)
    (t : TypeId) (old : Array Value) (hg : w.heap[g]? = some (.cells old t (0, 0))) (hi : (P.info? ty).map (·.size) = some cells.size)
    (hold : old.size = cells.size) (h1 : cells.all (·.oneCell') = true)
    (h : ∀ W : World, W.heap[g]? = some (.cells cells t (0, 0)) → (∀ B w0, Below B w0 w → B ≤ g → Below B w0 W) → (∀ j, j ≠ g → W.heap[j]? = w.heap[j]?) → wpList P ops Q rest (a.put o.dst undef) W) : wpList P ops Q (o :: rest) a w :=
  wpList_store_row hgd ty x y ho g cells hx hy t old hg hi hold h1 (h _ (setRow_heap w g old cells t _ hg) (fun B w0 hb hB => ⟨hb.os, hb.tape, hb.output, by simpa using hb.size, fun k hk => by rw [setRow_other w g k cells (by omega)]; exact hb.block k hk⟩) (fun j hj => setRow_other w g j cells hj))
theorem results_cell2 {P : Program} {fn : Func} {p t : Tmp} {ty : TypeId} (h : fn.results = #[.cell p ty, .tmp t]) (tmps : Array Value) (w : World) (g : Nat) (t' : TypeId) (cs : Array Value) (fr : Nat × Nat) (d : TypeDesc)
    (hp : tmps.getD p undef = .pointer (some ⟨g, 0, none⟩)) (hg : w.heap[g]? = some (.cells cs t' fr))
    (hu : P.underlying ty = some d) (hd : (match d with | .struct _ | .array _ _ => true | _ => false) = true) (hi : (P.info? ty).map (·.size) = some cs.size) :
    (results fn tmps).run P w = .ok (.tuple #[.agg cs, tmps.getD t undef]) w := by
  have hp' : tmps[p]?.getD undef = .pointer (some ⟨g, 0, none⟩) := by simpa using hp
  simp [results, h, hp', asAddr, run_loadVar_row w g t' ty cs fr d hg hu hd hi]

abbrev Pk.arr (p : Pk) : Array Value := #[.int .u8 p.l, .int .u8 p.v, .int .u8 p.m, .int .u8 p.s, .int .i8 p.po, .int .i8 p.pr, .int .u32 p.de, .int .u32 p.di, .int .u32 p.rs, .int .u64 p.rf, .int .u64 p.og, .int .u64 p.rc, .int .u64 p.xm]
/-- The reason, of a peer that waits. -/
def Pr.why (k : Pr) (x : Int) (zs : List Int) : Int := if lookW k.ck zs = 0 ∧ k.isLate x = true then 12 else lookW k.ck zs
def Pr.got (k : Pr) (x : Int) (zs : List Int) : Pk := if lookW k.ck zs = 0 ∧ k.isLate x = true then zeroPk else lookP k.ck zs
theorem box_old {w w1 w2 : World} {o o2 : Obj} (h1 : Below (w.alloc o).heap.size (w.alloc o) w1) (h2 : Below w1.heap.size w1 w2) : w2.heap[w.heap.size]? = some o ∧ Below w.heap.size w w2 ∧ (w2.alloc o2).heap[w.heap.size]? = some o := by
  have e := bel_box h1
  have hl := heap_lt e.1
  have e2 : w2.heap[w.heap.size]? = some o := (h2.block _ hl).trans e.1
  exact ⟨e2, bel_trans e.2 h2, by rw [Below.heap_alloc _ _ _ (heap_lt e2)]; exact e2⟩
section
variable (p b : Nat) (k : Pr) (w : World) (h : Pe w p b k)
include h
set_option maxRecDepth 100000 in
set_option maxHeartbeats 2000000 in
theorem plook_no (x : Int) (v : Value) (h1 : k.st = 0 ∨ k.st = 2) : Calls Try.prog 42 #[.pointer (some ⟨p, 0, none⟩), .int .i64 x, v] w fun e w' => e = .returned (.tuple #[.agg zeroPk.arr, .int .i64 (if k.st = 2 then 3 else 4)]) ∧ Below w.heap.size w w' := by
  obtain ⟨f0, f1, f2, f3, f4, f5, f6⟩ := (h.below (bel_alloc w (.cells #[.int .u8 0, .int .u8 0, .int .u8 0, .int .u8 0, .int .i8 0, .int .i8 0, .int .u32 0, .int .u32 0, .int .u32 0, .int .u64 0, .int .u64 0, .int .u64 0, .int .u64 0] 57))).facts
  clear h f0 f1 f3 f4 f5 f6
  obtain ⟨l, m, d, n, t, st, due, sent, clk, ck⟩ := k
  simp only at *
  rcases h1 with rfl | rfl
  · go_enter Try.func42, Try.ntmps42
    go_wp2
    exact bodyPost_ret (results_cell2 (g := w.heap.size) (t' := 57) (cs := zeroPk.arr) (fr := (0, 0)) rfl _ _ _ rfl (heap_alloc_new w _) Try.underlying57 rfl info27) rfl ⟨rfl, bel_alloc _ _⟩
  · go_enter Try.func42, Try.ntmps42
    go_wp2
    exact bodyPost_ret (results_cell2 (g := w.heap.size) (t' := 57) (cs := zeroPk.arr) (fr := (0, 0)) rfl _ _ _ rfl (heap_alloc_new w _) Try.underlying57 rfl info27) rfl ⟨rfl, bel_alloc _ _⟩
set_option maxRecDepth 100000 in
set_option maxHeartbeats 4000000 in
theorem plook_any (o : k.Ok) (x : Int) (h1 : k.st = 1) (A : Option Addr) (len cap : Nat) (zs : List Int) (hz : Bytes w A len cap zs) : Calls Try.prog 42 #[.pointer (some ⟨p, 0, none⟩), .int .i64 x, .slice A len cap] w fun e w' => e = .returned (.tuple #[.agg (k.got x zs).arr, .int .i64 (k.why x zs)]) ∧ Below w.heap.size w w' := by
  have KK := Lib.hid (fun W (hb : Below w.heap.size w W) => look_any A len cap zs k.ck W (bytes_below hz hb))
  have KL := Lib.hid (fun W (hb : Below w.heap.size w W) => late_any p b k W (h.below hb) o x)
  unfold Pr.why Pr.got
  have HF := Lib.hid (fun W (hb : Below w.heap.size w W) => (h.below hb).facts)
  have K1 := Lib.hid (KK.out _ (bel_alloc w (.cells #[.int .u8 0, .int .u8 0, .int .u8 0, .int .u8 0, .int .i8 0, .int .i8 0, .int .u32 0, .int .u32 0, .int .u32 0, .int .u64 0, .int .u64 0, .int .u64 0, .int .u64 0] 57)))
  obtain ⟨f0, f1, f2, f3, f4, f5, f6⟩ := (h.below (bel_alloc w (.cells #[.int .u8 0, .int .u8 0, .int .u8 0, .int .u8 0, .int .i8 0, .int .i8 0, .int .u32 0, .int .u32 0, .int .u32 0, .int .u64 0, .int .u64 0, .int .u64 0, .int .u64 0] 57))).facts
  clear h f0 f1 f3 f4 f5 hz o KK
  obtain ⟨l, m, d, n, t, st, due, sent, clk, ck⟩ := k
  simp only at *
  subst h1
  generalize lookW ck zs = y at *
  generalize lookP ck zs = q at *
  have HO := Lib.hid (And.intro (one13 zeroPk) (one13 q))
  by_cases hy : y = 0
  · subst hy
    cases hl : Pr.isLate ⟨l, m, d, n, t, 1, due, sent, clk, ck⟩ x with
    | true =>
      rw [hl] at KL
      rw [if_pos ⟨rfl, rfl⟩, if_pos ⟨rfl, rfl⟩]
      clear hl
      go_enter Try.func42, Try.ntmps42
      go_wp2_with fail
      refine K1.out.mono ?_
      rintro e w1 ⟨rfl, hb1⟩
      have K2 := Lib.hid (KL.out (w1.alloc (.cells q.arr 57)) (bel_trans (bel_box hb1).2 (bel_alloc _ _)))
      have H1 := Lib.hid hb1
      clear hb1 KL
      go_wp2_with fail
      refine K2.out.mono ?_
      rintro e w2 ⟨rfl, hb2⟩
      have HR := Lib.hid (box_old (o2 := .cells #[] 0) H1.out (bel_box hb2).2)
      clear hb2 K2
      go_wp2_with (refine wpList_store_res rfl 57 (.tmp 6) (.tmp 45) rfl w.heap.size _ rfl rfl 57 _ HR.out.1 info27 rfl HO.out.1 ?_; intro W hW hbW hW2; have HW := Lib.hid (And.intro hW (hbW _ _ HR.out.2.1 (Nat.le_refl _))); clear hW hbW hW2)
      exact bodyPost_ret (results_cell2 (g := w.heap.size) rfl _ _ _ _ _ _ rfl HW.out.1 Try.underlying57 rfl info27) rfl ⟨rfl, HW.out.2⟩
    | false =>
      rw [hl] at KL
      rw [if_neg (by simp), if_neg (by simp)]
      clear hl
      go_enter Try.func42, Try.ntmps42
      go_wp2_with fail
      refine K1.out.mono ?_
      rintro e w1 ⟨rfl, hb1⟩
      have K2 := Lib.hid (KL.out (w1.alloc (.cells q.arr 57)) (bel_trans (bel_box hb1).2 (bel_alloc _ _)))
      have H1 := Lib.hid hb1
      clear hb1 KL
      go_wp2_with fail
      refine K2.out.mono ?_
      rintro e w2 ⟨rfl, hb2⟩
      have HR := Lib.hid (box_old (o2 := .cells #[] 0) H1.out (bel_box hb2).2)
      have HQ := Lib.hid (bel_box hb2).1
      have c0 : w2.cell? ⟨w1.heap.size, 0, none⟩ = some (.int .u8 q.l) := cell_of_row _ _ 0 _ _ _ HQ.out
      have c1 : w2.cell? ⟨w1.heap.size, 1, none⟩ = some (.int .u8 q.v) := cell_of_row _ _ 1 _ _ _ HQ.out
      have c2 : w2.cell? ⟨w1.heap.size, 2, none⟩ = some (.int .u8 q.m) := cell_of_row _ _ 2 _ _ _ HQ.out
      have c3 : w2.cell? ⟨w1.heap.size, 3, none⟩ = some (.int .u8 q.s) := cell_of_row _ _ 3 _ _ _ HQ.out
      have c4 : w2.cell? ⟨w1.heap.size, 4, none⟩ = some (.int .i8 q.po) := cell_of_row _ _ 4 _ _ _ HQ.out
      have c5 : w2.cell? ⟨w1.heap.size, 5, none⟩ = some (.int .i8 q.pr) := cell_of_row _ _ 5 _ _ _ HQ.out
      have c6 : w2.cell? ⟨w1.heap.size, 6, none⟩ = some (.int .u32 q.de) := cell_of_row _ _ 6 _ _ _ HQ.out
      have c7 : w2.cell? ⟨w1.heap.size, 7, none⟩ = some (.int .u32 q.di) := cell_of_row _ _ 7 _ _ _ HQ.out
      have c8 : w2.cell? ⟨w1.heap.size, 8, none⟩ = some (.int .u32 q.rs) := cell_of_row _ _ 8 _ _ _ HQ.out
      have c9 : w2.cell? ⟨w1.heap.size, 9, none⟩ = some (.int .u64 q.rf) := cell_of_row _ _ 9 _ _ _ HQ.out
      have c10 : w2.cell? ⟨w1.heap.size, 10, none⟩ = some (.int .u64 q.og) := cell_of_row _ _ 10 _ _ _ HQ.out
      have c11 : w2.cell? ⟨w1.heap.size, 11, none⟩ = some (.int .u64 q.rc) := cell_of_row _ _ 11 _ _ _ HQ.out
      have c12 : w2.cell? ⟨w1.heap.size, 12, none⟩ = some (.int .u64 q.xm) := cell_of_row _ _ 12 _ _ _ HQ.out
      clear hb2 K2
      go_wp2_with (refine wpList_store_res rfl 57 (.tmp 6) (.tmp 46) rfl w.heap.size _ rfl rfl 57 _ HR.out.1 info27 rfl HO.out.2 ?_; intro W hW hbW hW2; have HW := Lib.hid (And.intro hW (hbW _ _ HR.out.2.1 (Nat.le_refl _))); clear hW hbW hW2 c0 c1 c2 c3 c4 c5 c6 c7 c8 c9 c10 c11 c12)
      exact bodyPost_ret (results_cell2 (g := w.heap.size) rfl _ _ _ _ _ _ rfl HW.out.1 Try.underlying57 rfl info27) rfl ⟨rfl, HW.out.2⟩
  · have hy0 : (y == 0) = false := by simp [hy]
    rw [if_neg (by simp [hy]), if_neg (by simp [hy])]
    clear KL
    go_enter Try.func42, Try.ntmps42
    go_wp2_with fail
    refine K1.out.mono ?_
    rintro e w1 ⟨rfl, hb1⟩
    have HR := Lib.hid (box_old (o2 := .cells q.arr 57) hb1 (Below.refl _ _))
    clear hb1
    go_wp2_with (refine wpList_store_res rfl 57 (.tmp 6) (.tmp 46) rfl w.heap.size _ rfl rfl 57 _ HR.out.2.2 info27 rfl HO.out.2 ?_; intro W hW hbW hW2; have HW := Lib.hid (And.intro hW (hbW _ _ (bel_trans HR.out.2.1 (bel_alloc _ _)) (Nat.le_refl _))); clear hW hbW hW2)
    exact bodyPost_ret (results_cell2 (g := w.heap.size) rfl _ _ _ _ _ _ rfl HW.out.1 Try.underlying57 rfl info27) rfl ⟨rfl, HW.out.2⟩
end
end Go.Proofs.Ytfknefpfekjnnaa
