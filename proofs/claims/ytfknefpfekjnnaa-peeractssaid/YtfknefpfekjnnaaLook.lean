/- Look: whether an answer may be taken, and why not. -/
import Derived.Test.YtfknefpfekjnnaaReason
import Derived.Laws.Tables
namespace Go.Proofs.Ytfknefpfekjnnaa
open Go.RowKit

def zeroPk : Pk := ⟨0, 0, 0, 0, 0, 0, 0, 0, 0, 0, 0, 0, 0⟩
/-- What is told beside a reason. -/
def told (y : Int) (p : Pk) : Pk := if y = 0 ∨ y = 8 then p else zeroPk

theorem below_setRow {B g : Nat} {a w : World} (h : Below B a w) (hg : B ≤ g) (cs : Array Value) : Below B a (w.setRow g cs) :=
  ⟨h.os, h.tape, h.output, by simpa using h.size, fun k hk => by rw [setRow_other w g k cs (by omega)]; exact h.block k hk⟩
/-- A store over a whole block of the call's own. -/
theorem wpList_store_mine {P : Program} {ops : Array Oper} {rest : List Oper} {o : Oper} {a : Act} {w w0 : World} {Q : Exit → Act → World → Prop} (hgd : o.guard = none) (ty : TypeId) (x y : Operand) (ho : o.op = .store ty x y)
    (g : Nat) (cells : Array Value) (hx : a.eval x = .pointer (some ⟨g, 0, none⟩)) (hy : a.eval y = .agg cells)
    (t : TypeId) (old : Array Value) (hg : w.heap[g]? = some (.cells old t (0, 0))) (hi : (P.info? ty).map (·.size) = some cells.size)
    (hold : old.size = cells.size) (h1 : cells.all (·.oneCell') = true) {B : Nat} (hb : Below B w0 w) (hB : B ≤ g)
    (h : ∀ W : World, Below B w0 W → (∀ j, W.cell? ⟨g, j, none⟩ = cells[j]?) → wpList P ops Q rest (a.put o.dst undef) W) : wpList P ops Q (o :: rest) a w :=
  wpList_store_row hgd ty x y ho g cells hx hy t old hg hi hold h1 (h _ (below_setRow hb hB cells) (fun j => cell_setRow_same w g j old cells t _ hg))
theorem one13 (p : Pk) : (#[.int .u8 p.l, .int .u8 p.v, .int .u8 p.m, .int .u8 p.s, .int .i8 p.po, .int .i8 p.pr, .int .u32 p.de, .int .u32 p.di, .int .u32 p.rs, .int .u64 p.rf, .int .u64 p.og, .int .u64 p.rc, .int .u64 p.xm] : Array Value).all (·.oneCell') = true := by simp [Value.oneCell']
theorem info27 : (Try.prog.info? 57).map (·.size) = some 13 := by kernel_rfl

/-- A block that two calls and a block between them left as it was. -/
theorem result_row {w w1 w2 : World} {cs ds : Array Value} {s t : TypeId} (hb1 : Below (w.alloc (.cells cs t)).heap.size (w.alloc (.cells cs t)) w1)
    (hb2 : Below (w1.alloc (.cells ds s)).heap.size (w1.alloc (.cells ds s)) w2) : w2.heap[w.heap.size]? = some (.cells cs t (0, 0)) ∧ Below w.heap.size w w2 := by
  have s1 := hb1.size
  have e1 : (w.alloc (.cells cs t)).heap.size = w.heap.size + 1 := by simp
  have e2 : (w1.alloc (.cells ds s)).heap.size = w1.heap.size + 1 := by simp
  rw [e1] at s1 hb1
  rw [e2] at hb2
  refine ⟨?_, ?_⟩
  · rw [hb2.block _ (by omega), Below.heap_alloc _ _ _ (by omega), hb1.block _ (by omega)]
    exact heap_alloc_new w _
  · exact (below_box hb1).trans (((Below.refl _ w1).alloc (by omega) _).trans (hb2.mono (by omega)))

set_option maxHeartbeats 1000000 in
theorem look_in (A : Option Addr) (len cap : Nat) (k lack y : Int) (p q : Pk) (w : World)
    (G : ∀ W : World, w.heap.size ≤ W.heap.size → (∀ a : Addr, a.block < w.heap.size → W.cell? a = w.cell? a) →
      Calls Try.prog 26 #[.slice A len cap] W fun e w' => e = .returned (.tuple #[.agg #[.int .u8 p.l, .int .u8 p.v, .int .u8 p.m, .int .u8 p.s, .int .i8 p.po, .int .i8 p.pr, .int .u32 p.de, .int .u32 p.di, .int .u32 p.rs, .int .u64 p.rf, .int .u64 p.og, .int .u64 p.rc, .int .u64 p.xm], .int .i64 lack]) ∧ Below W.heap.size W w')
    (R : ∀ w : World, Calls Try.prog 50 #[.agg #[.int .u64 k, .int .u8 p.l, .int .u8 p.v, .int .u8 p.m, .int .u8 p.s, .int .i8 p.po, .int .i8 p.pr, .int .u32 p.de, .int .u32 p.di, .int .u32 p.rs, .int .u64 p.rf, .int .u64 p.og, .int .u64 p.rc, .int .u64 p.xm, .int .i64 lack]] w fun x w' => x = .returned (.int .i64 y) ∧ Below w.heap.size w w')
    (hq : (y = 0 ∧ q = p) ∨ (y = 8 ∧ q = p) ∨ (y ≠ 0 ∧ y ≠ 8 ∧ q = zeroPk)) :
    Calls Try.prog 27 #[.slice A len cap, .int .u64 k] w fun e w' => e = .returned (.tuple #[.agg #[.int .u8 q.l, .int .u8 q.v, .int .u8 q.m, .int .u8 q.s, .int .i8 q.po, .int .i8 q.pr, .int .u32 q.de, .int .u32 q.di, .int .u32 q.rs, .int .u64 q.rf, .int .u64 q.og, .int .u64 q.rc, .int .u64 q.xm], .int .i64 y]) ∧ Below w.heap.size w w' := by
  have HG := Lib.hid G
  have KR := Lib.hid R
  clear G R
  have HT := Lib.hid (And.intro (one13 p) (one13 zeroPk))
  rcases hq with ⟨rfl, rfl⟩ | ⟨rfl, rfl⟩ | ⟨h0, h8, rfl⟩
  · go_enter Try.func27, Try.ntmps27
    go_wp2_with fail
    refine (HG.out _ (by simp) (fun a ha => World.cell?_alloc_lt _ _ _ ha)).mono ?_
    rintro e w1 ⟨rfl, hb1⟩
    go_wp2_with fail
    refine (KR.out _).mono ?_
    rintro e w2 ⟨rfl, hb2⟩
    have c0 : w2.cell? ⟨w1.heap.size, 0, none⟩ = some (.int .u8 q.l) := round_cell hb2 0; have c1 : w2.cell? ⟨w1.heap.size, 1, none⟩ = some (.int .u8 q.v) := round_cell hb2 1; have c2 : w2.cell? ⟨w1.heap.size, 2, none⟩ = some (.int .u8 q.m) := round_cell hb2 2; have c3 : w2.cell? ⟨w1.heap.size, 3, none⟩ = some (.int .u8 q.s) := round_cell hb2 3; have c4 : w2.cell? ⟨w1.heap.size, 4, none⟩ = some (.int .i8 q.po) := round_cell hb2 4; have c5 : w2.cell? ⟨w1.heap.size, 5, none⟩ = some (.int .i8 q.pr) := round_cell hb2 5; have c6 : w2.cell? ⟨w1.heap.size, 6, none⟩ = some (.int .u32 q.de) := round_cell hb2 6; have c7 : w2.cell? ⟨w1.heap.size, 7, none⟩ = some (.int .u32 q.di) := round_cell hb2 7; have c8 : w2.cell? ⟨w1.heap.size, 8, none⟩ = some (.int .u32 q.rs) := round_cell hb2 8; have c9 : w2.cell? ⟨w1.heap.size, 9, none⟩ = some (.int .u64 q.rf) := round_cell hb2 9; have c10 : w2.cell? ⟨w1.heap.size, 10, none⟩ = some (.int .u64 q.og) := round_cell hb2 10; have c11 : w2.cell? ⟨w1.heap.size, 11, none⟩ = some (.int .u64 q.rc) := round_cell hb2 11; have c12 : w2.cell? ⟨w1.heap.size, 12, none⟩ = some (.int .u64 q.xm) := round_cell hb2 12
    have HR := Lib.hid (result_row hb1 hb2)
    clear hb1 hb2
    go_wp2_with (refine wpList_store_mine rfl 57 (.tmp 4) (.tmp 27) rfl w.heap.size _ rfl rfl 57 _ HR.out.1 info27 rfl HT.out.1 HR.out.2 (Nat.le_refl _) ?_; intro W hbW hW; have HW := Lib.hid (And.intro hbW hW); clear hbW hW)
    have r0 : W.cell? ⟨w.heap.size, 0, none⟩ = some (.int .u8 q.l) := HW.out.2 0; have r1 : W.cell? ⟨w.heap.size, 1, none⟩ = some (.int .u8 q.v) := HW.out.2 1; have r2 : W.cell? ⟨w.heap.size, 2, none⟩ = some (.int .u8 q.m) := HW.out.2 2; have r3 : W.cell? ⟨w.heap.size, 3, none⟩ = some (.int .u8 q.s) := HW.out.2 3; have r4 : W.cell? ⟨w.heap.size, 4, none⟩ = some (.int .i8 q.po) := HW.out.2 4; have r5 : W.cell? ⟨w.heap.size, 5, none⟩ = some (.int .i8 q.pr) := HW.out.2 5; have r6 : W.cell? ⟨w.heap.size, 6, none⟩ = some (.int .u32 q.de) := HW.out.2 6; have r7 : W.cell? ⟨w.heap.size, 7, none⟩ = some (.int .u32 q.di) := HW.out.2 7; have r8 : W.cell? ⟨w.heap.size, 8, none⟩ = some (.int .u32 q.rs) := HW.out.2 8; have r9 : W.cell? ⟨w.heap.size, 9, none⟩ = some (.int .u64 q.rf) := HW.out.2 9; have r10 : W.cell? ⟨w.heap.size, 10, none⟩ = some (.int .u64 q.og) := HW.out.2 10; have r11 : W.cell? ⟨w.heap.size, 11, none⟩ = some (.int .u64 q.rc) := HW.out.2 11; have r12 : W.cell? ⟨w.heap.size, 12, none⟩ = some (.int .u64 q.xm) := HW.out.2 12
    exact bodyPost_ret (v := .tuple #[.agg #[.int .u8 q.l, .int .u8 q.v, .int .u8 q.m, .int .u8 q.s, .int .i8 q.po, .int .i8 q.pr, .int .u32 q.de, .int .u32 q.di, .int .u32 q.rs, .int .u64 q.rf, .int .u64 q.og, .int .u64 q.rc, .int .u64 q.xm], .int .i64 0]) (by simp [results, Try.results27, go_sem, r0, r1, r2, r3, r4, r5, r6, r7, r8, r9, r10, r11, r12]) rfl ⟨rfl, HW.out.1⟩
  · go_enter Try.func27, Try.ntmps27
    go_wp2_with fail
    refine (HG.out _ (by simp) (fun a ha => World.cell?_alloc_lt _ _ _ ha)).mono ?_
    rintro e w1 ⟨rfl, hb1⟩
    go_wp2_with fail
    refine (KR.out _).mono ?_
    rintro e w2 ⟨rfl, hb2⟩
    have c0 : w2.cell? ⟨w1.heap.size, 0, none⟩ = some (.int .u8 q.l) := round_cell hb2 0; have c1 : w2.cell? ⟨w1.heap.size, 1, none⟩ = some (.int .u8 q.v) := round_cell hb2 1; have c2 : w2.cell? ⟨w1.heap.size, 2, none⟩ = some (.int .u8 q.m) := round_cell hb2 2; have c3 : w2.cell? ⟨w1.heap.size, 3, none⟩ = some (.int .u8 q.s) := round_cell hb2 3; have c4 : w2.cell? ⟨w1.heap.size, 4, none⟩ = some (.int .i8 q.po) := round_cell hb2 4; have c5 : w2.cell? ⟨w1.heap.size, 5, none⟩ = some (.int .i8 q.pr) := round_cell hb2 5; have c6 : w2.cell? ⟨w1.heap.size, 6, none⟩ = some (.int .u32 q.de) := round_cell hb2 6; have c7 : w2.cell? ⟨w1.heap.size, 7, none⟩ = some (.int .u32 q.di) := round_cell hb2 7; have c8 : w2.cell? ⟨w1.heap.size, 8, none⟩ = some (.int .u32 q.rs) := round_cell hb2 8; have c9 : w2.cell? ⟨w1.heap.size, 9, none⟩ = some (.int .u64 q.rf) := round_cell hb2 9; have c10 : w2.cell? ⟨w1.heap.size, 10, none⟩ = some (.int .u64 q.og) := round_cell hb2 10; have c11 : w2.cell? ⟨w1.heap.size, 11, none⟩ = some (.int .u64 q.rc) := round_cell hb2 11; have c12 : w2.cell? ⟨w1.heap.size, 12, none⟩ = some (.int .u64 q.xm) := round_cell hb2 12
    have HR := Lib.hid (result_row hb1 hb2)
    clear hb1 hb2
    go_wp2_with (refine wpList_store_mine rfl 57 (.tmp 4) (.tmp 27) rfl w.heap.size _ rfl rfl 57 _ HR.out.1 info27 rfl HT.out.1 HR.out.2 (Nat.le_refl _) ?_; intro W hbW hW; have HW := Lib.hid (And.intro hbW hW); clear hbW hW)
    have r0 : W.cell? ⟨w.heap.size, 0, none⟩ = some (.int .u8 q.l) := HW.out.2 0; have r1 : W.cell? ⟨w.heap.size, 1, none⟩ = some (.int .u8 q.v) := HW.out.2 1; have r2 : W.cell? ⟨w.heap.size, 2, none⟩ = some (.int .u8 q.m) := HW.out.2 2; have r3 : W.cell? ⟨w.heap.size, 3, none⟩ = some (.int .u8 q.s) := HW.out.2 3; have r4 : W.cell? ⟨w.heap.size, 4, none⟩ = some (.int .i8 q.po) := HW.out.2 4; have r5 : W.cell? ⟨w.heap.size, 5, none⟩ = some (.int .i8 q.pr) := HW.out.2 5; have r6 : W.cell? ⟨w.heap.size, 6, none⟩ = some (.int .u32 q.de) := HW.out.2 6; have r7 : W.cell? ⟨w.heap.size, 7, none⟩ = some (.int .u32 q.di) := HW.out.2 7; have r8 : W.cell? ⟨w.heap.size, 8, none⟩ = some (.int .u32 q.rs) := HW.out.2 8; have r9 : W.cell? ⟨w.heap.size, 9, none⟩ = some (.int .u64 q.rf) := HW.out.2 9; have r10 : W.cell? ⟨w.heap.size, 10, none⟩ = some (.int .u64 q.og) := HW.out.2 10; have r11 : W.cell? ⟨w.heap.size, 11, none⟩ = some (.int .u64 q.rc) := HW.out.2 11; have r12 : W.cell? ⟨w.heap.size, 12, none⟩ = some (.int .u64 q.xm) := HW.out.2 12
    exact bodyPost_ret (v := .tuple #[.agg #[.int .u8 q.l, .int .u8 q.v, .int .u8 q.m, .int .u8 q.s, .int .i8 q.po, .int .i8 q.pr, .int .u32 q.de, .int .u32 q.di, .int .u32 q.rs, .int .u64 q.rf, .int .u64 q.og, .int .u64 q.rc, .int .u64 q.xm], .int .i64 8]) (by simp [results, Try.results27, go_sem, r0, r1, r2, r3, r4, r5, r6, r7, r8, r9, r10, r11, r12]) rfl ⟨rfl, HW.out.1⟩
  · have b0 : (y != 0) = true := by simp [h0]
    have b8 : (y != 8) = true := by simp [h8]
    go_enter Try.func27, Try.ntmps27
    go_wp2_with fail
    refine (HG.out _ (by simp) (fun a ha => World.cell?_alloc_lt _ _ _ ha)).mono ?_
    rintro e w1 ⟨rfl, hb1⟩
    go_wp2_with fail
    refine (KR.out _).mono ?_
    rintro e w2 ⟨rfl, hb2⟩
    have c0 : w2.cell? ⟨w1.heap.size, 0, none⟩ = some (.int .u8 p.l) := round_cell hb2 0; have c1 : w2.cell? ⟨w1.heap.size, 1, none⟩ = some (.int .u8 p.v) := round_cell hb2 1; have c2 : w2.cell? ⟨w1.heap.size, 2, none⟩ = some (.int .u8 p.m) := round_cell hb2 2; have c3 : w2.cell? ⟨w1.heap.size, 3, none⟩ = some (.int .u8 p.s) := round_cell hb2 3; have c4 : w2.cell? ⟨w1.heap.size, 4, none⟩ = some (.int .i8 p.po) := round_cell hb2 4; have c5 : w2.cell? ⟨w1.heap.size, 5, none⟩ = some (.int .i8 p.pr) := round_cell hb2 5; have c6 : w2.cell? ⟨w1.heap.size, 6, none⟩ = some (.int .u32 p.de) := round_cell hb2 6; have c7 : w2.cell? ⟨w1.heap.size, 7, none⟩ = some (.int .u32 p.di) := round_cell hb2 7; have c8 : w2.cell? ⟨w1.heap.size, 8, none⟩ = some (.int .u32 p.rs) := round_cell hb2 8; have c9 : w2.cell? ⟨w1.heap.size, 9, none⟩ = some (.int .u64 p.rf) := round_cell hb2 9; have c10 : w2.cell? ⟨w1.heap.size, 10, none⟩ = some (.int .u64 p.og) := round_cell hb2 10; have c11 : w2.cell? ⟨w1.heap.size, 11, none⟩ = some (.int .u64 p.rc) := round_cell hb2 11; have c12 : w2.cell? ⟨w1.heap.size, 12, none⟩ = some (.int .u64 p.xm) := round_cell hb2 12
    have HR := Lib.hid (result_row hb1 hb2)
    clear hb1 hb2
    go_wp2_with (refine wpList_store_mine rfl 57 (.tmp 4) (.tmp 25) rfl w.heap.size _ rfl rfl 57 _ HR.out.1 info27 rfl HT.out.2 HR.out.2 (Nat.le_refl _) ?_; intro W hbW hW; have HW := Lib.hid (And.intro hbW hW); clear hbW hW)
    have r0 : W.cell? ⟨w.heap.size, 0, none⟩ = some (.int .u8 zeroPk.l) := HW.out.2 0; have r1 : W.cell? ⟨w.heap.size, 1, none⟩ = some (.int .u8 zeroPk.v) := HW.out.2 1; have r2 : W.cell? ⟨w.heap.size, 2, none⟩ = some (.int .u8 zeroPk.m) := HW.out.2 2; have r3 : W.cell? ⟨w.heap.size, 3, none⟩ = some (.int .u8 zeroPk.s) := HW.out.2 3; have r4 : W.cell? ⟨w.heap.size, 4, none⟩ = some (.int .i8 zeroPk.po) := HW.out.2 4; have r5 : W.cell? ⟨w.heap.size, 5, none⟩ = some (.int .i8 zeroPk.pr) := HW.out.2 5; have r6 : W.cell? ⟨w.heap.size, 6, none⟩ = some (.int .u32 zeroPk.de) := HW.out.2 6; have r7 : W.cell? ⟨w.heap.size, 7, none⟩ = some (.int .u32 zeroPk.di) := HW.out.2 7; have r8 : W.cell? ⟨w.heap.size, 8, none⟩ = some (.int .u32 zeroPk.rs) := HW.out.2 8; have r9 : W.cell? ⟨w.heap.size, 9, none⟩ = some (.int .u64 zeroPk.rf) := HW.out.2 9; have r10 : W.cell? ⟨w.heap.size, 10, none⟩ = some (.int .u64 zeroPk.og) := HW.out.2 10; have r11 : W.cell? ⟨w.heap.size, 11, none⟩ = some (.int .u64 zeroPk.rc) := HW.out.2 11; have r12 : W.cell? ⟨w.heap.size, 12, none⟩ = some (.int .u64 zeroPk.xm) := HW.out.2 12
    exact bodyPost_ret (v := .tuple #[.agg #[.int .u8 zeroPk.l, .int .u8 zeroPk.v, .int .u8 zeroPk.m, .int .u8 zeroPk.s, .int .i8 zeroPk.po, .int .i8 zeroPk.pr, .int .u32 zeroPk.de, .int .u32 zeroPk.di, .int .u32 zeroPk.rs, .int .u64 zeroPk.rf, .int .u64 zeroPk.og, .int .u64 zeroPk.rc, .int .u64 zeroPk.xm], .int .i64 y]) (by simp [results, Try.results27, go_sem, r0, r1, r2, r3, r4, r5, r6, r7, r8, r9, r10, r11, r12]) rfl ⟨rfl, HW.out.1⟩

theorem told_way (y : Int) (p : Pk) : (y = 0 ∧ told y p = p) ∨ (y = 8 ∧ told y p = p) ∨ (y ≠ 0 ∧ y ≠ 8 ∧ told y p = zeroPk) := by
  unfold told
  by_cases h0 : y = 0
  · exact .inl ⟨h0, if_pos (.inl h0)⟩
  · by_cases h8 : y = 8
    · exact .inr (.inl ⟨h8, if_pos (.inr h8)⟩)
    · exact .inr (.inr ⟨h0, h8, if_neg (by simp [h0, h8])⟩)
def lookW (k : Int) (zs : List Int) : Int := if zs.length < 48 then 1 else whyOf k (pkOf zs) 0
def lookP (k : Int) (zs : List Int) : Pk := if zs.length < 48 then zeroPk else told (whyOf k (pkOf zs) 0) (pkOf zs)
theorem look_long (g o len cap : Nat) (zs : List Int) (k : Int) (w : World) (hl : zs.length = len) (h48 : 48 ≤ len) (hlc : len ≤ cap) (hcm : cap ≤ maxLen) (hb : AllBytes zs) (hg : g < w.heap.size) (hc : Has w g o zs) :
    Calls Try.prog 27 #[.slice (some ⟨g, o, none⟩) len cap, .int .u64 k] w fun e w' => e = .returned (.tuple #[.agg #[.int .u8 (lookP k zs).l, .int .u8 (lookP k zs).v, .int .u8 (lookP k zs).m, .int .u8 (lookP k zs).s, .int .i8 (lookP k zs).po, .int .i8 (lookP k zs).pr, .int .u32 (lookP k zs).de, .int .u32 (lookP k zs).di, .int .u32 (lookP k zs).rs, .int .u64 (lookP k zs).rf, .int .u64 (lookP k zs).og, .int .u64 (lookP k zs).rc, .int .u64 (lookP k zs).xm], .int .i64 (lookW k zs)]) ∧ Below w.heap.size w w' := by
  unfold lookP lookW
  rw [if_neg (by omega), if_neg (by omega)]
  exact look_in _ len cap k 0 _ (pkOf zs) _ w (fun W hW hcW => get_ok g o len cap zs W hl h48 hlc hcm hb (by omega) (has_keep hg hcW hc)) (fun w => reason_any k 0 (pkOf zs) w) (told_way _ _)
theorem look_short (A : Option Addr) (len cap : Nat) (zs : List Int) (k : Int) (w : World) (hl : zs.length = len) (h48 : len < 48) :
    Calls Try.prog 27 #[.slice A len cap, .int .u64 k] w fun e w' => e = .returned (.tuple #[.agg #[.int .u8 (lookP k zs).l, .int .u8 (lookP k zs).v, .int .u8 (lookP k zs).m, .int .u8 (lookP k zs).s, .int .i8 (lookP k zs).po, .int .i8 (lookP k zs).pr, .int .u32 (lookP k zs).de, .int .u32 (lookP k zs).di, .int .u32 (lookP k zs).rs, .int .u64 (lookP k zs).rf, .int .u64 (lookP k zs).og, .int .u64 (lookP k zs).rc, .int .u64 (lookP k zs).xm], .int .i64 (lookW k zs)]) ∧ Below w.heap.size w w' := by
  unfold lookP lookW
  rw [if_pos (by omega), if_pos (by omega)]
  exact look_in _ len cap k 5 1 zeroPk zeroPk w (fun W _ _ => get_short A len cap W h48) (fun w => reason_any k 5 zeroPk w) (.inr (.inr ⟨by decide, by decide, rfl⟩))
end Go.Proofs.Ytfknefpfekjnnaa
