/- The document's answer: whether an answer may be taken. -/
import Derived.Test.YtfknefpfekjnnaaLook
import Derived.Test.YtfknefpfekjnnaaRback
namespace Go.Proofs.Ytfknefpfekjnnaa
open Go.RowKit

/-- A new block at the start, a call, a block behind it. -/
theorem result_row1 {w w1 : World} {cs ds : Array Value} {s t : TypeId} (hb1 : Below (w.alloc (.cells cs t)).heap.size (w.alloc (.cells cs t)) w1) : (w1.alloc (.cells ds s)).heap[w.heap.size]? = some (.cells cs t (0, 0)) ∧ Below w.heap.size w (w1.alloc (.cells ds s)) :=
  result_row hb1 (Below.refl _ _)
/-- Which reason is the first, by the tests of the document. -/
theorem ways (k : Int) (p : Pk) : ((p.v != 4) = true ∧ whyOf k p 0 = 5) ∨
    ((p.v != 4) = false ∧ (p.m != 4) = true ∧ whyOf k p 0 = 6) ∨
    ((p.v != 4) = false ∧ (p.m != 4) = false ∧ (p.og != k) = true ∧ whyOf k p 0 = 7) ∨
    ((p.v != 4) = false ∧ (p.m != 4) = false ∧ (p.og != k) = false ∧ (k == 0) = true ∧ whyOf k p 0 = 7) ∨
    ((p.v != 4) = false ∧ (p.m != 4) = false ∧ (p.og != k) = false ∧ (k == 0) = false ∧ (p.s == 0) = true ∧ whyOf k p 0 = 8) ∨
    ((p.v != 4) = false ∧ (p.m != 4) = false ∧ (p.og != k) = false ∧ (k == 0) = false ∧ (p.s == 0) = false ∧ (p.l == 3) = true ∧ whyOf k p 0 = 9) ∨
    ((p.v != 4) = false ∧ (p.m != 4) = false ∧ (p.og != k) = false ∧ (k == 0) = false ∧ (p.s == 0) = false ∧ (p.l == 3) = false ∧ (decide (15 < p.s)) = true ∧ whyOf k p 0 = 10) ∨
    ((p.v != 4) = false ∧ (p.m != 4) = false ∧ (p.og != k) = false ∧ (k == 0) = false ∧ (p.s == 0) = false ∧ (p.l == 3) = false ∧ (decide (15 < p.s)) = false ∧ (p.rc == 0) = true ∧ whyOf k p 0 = 11) ∨
    ((p.v != 4) = false ∧ (p.m != 4) = false ∧ (p.og != k) = false ∧ (k == 0) = false ∧ (p.s == 0) = false ∧ (p.l == 3) = false ∧ (decide (15 < p.s)) = false ∧ (p.rc == 0) = false ∧ (p.xm == 0) = true ∧ whyOf k p 0 = 11) ∨
    ((p.v != 4) = false ∧ (p.m != 4) = false ∧ (p.og != k) = false ∧ (k == 0) = false ∧ (p.s == 0) = false ∧ (p.l == 3) = false ∧ (decide (15 < p.s)) = false ∧ (p.rc == 0) = false ∧ (p.xm == 0) = false ∧ whyOf k p 0 = 0) := by
  unfold whyOf tests
  by_cases hv : p.v = 4
  rotate_left
  · exact .inl ⟨by simp [*], by simp [whyL, *]⟩
  by_cases hm : p.m = 4
  rotate_left
  · exact .inr <| .inl ⟨by simp [*], by simp [*], by simp [whyL, *]⟩
  by_cases ho : p.og = k
  rotate_left
  · exact .inr <| .inr <| .inl ⟨by simp [*], by simp [*], by simp [*], by simp [whyL, *]⟩
  by_cases hk : k = 0
  · exact .inr <| .inr <| .inr <| .inl ⟨by simp [*], by simp [*], by simp [*], by simp [*], by simp [whyL, *]⟩
  by_cases hs : p.s = 0
  · exact .inr <| .inr <| .inr <| .inr <| .inl ⟨by simp [*], by simp [*], by simp [*], by simp [*], by simp [*], by simp [whyL, *]⟩
  by_cases hl : p.l = 3
  · exact .inr <| .inr <| .inr <| .inr <| .inr <| .inl ⟨by simp [*], by simp [*], by simp [*], by simp [*], by simp [*], by simp [*], by simp [whyL, *]⟩
  by_cases hg : 15 < p.s
  · exact .inr <| .inr <| .inr <| .inr <| .inr <| .inr <| .inl ⟨by simp [*], by simp [*], by simp [*], by simp [*], by simp [*], by simp [*], by simp [*], by simp [whyL, *]⟩
  by_cases hr : p.rc = 0
  · exact .inr <| .inr <| .inr <| .inr <| .inr <| .inr <| .inr <| .inl ⟨by simp [*], by simp [*], by simp [*], by simp [*], by simp [*], by simp [*], by simp [*], by simp [*], by simp [whyL, *]⟩
  by_cases hx : p.xm = 0
  · exact .inr <| .inr <| .inr <| .inr <| .inr <| .inr <| .inr <| .inr <| .inl ⟨by simp [*], by simp [*], by simp [*], by simp [*], by simp [*], by simp [*], by simp [*], by simp [*], by simp [*], by simp [whyL, *]⟩
  exact .inr <| .inr <| .inr <| .inr <| .inr <| .inr <| .inr <| .inr <| .inr <| ⟨by simp [*], by simp [*], by simp [*], by simp [*], by simp [*], by simp [*], by simp [*], by simp [*], by simp [*], by simp [whyL, *]⟩

set_option maxHeartbeats 4000000 in
theorem rlook_in (A : Option Addr) (len cap : Nat) (k : Int) (p : Pk) (w : World)
    (G : ∀ W : World, w.heap.size ≤ W.heap.size → (∀ a : Addr, a.block < w.heap.size → W.cell? a = w.cell? a) →
      Calls Try.prog 64 #[.slice A len cap] W fun e w' => e = .returned (.tuple #[.agg #[.int .u8 p.l, .int .u8 p.v, .int .u8 p.m, .int .u8 p.s, .int .i8 p.po, .int .i8 p.pr, .int .u32 p.de, .int .u32 p.di, .int .u32 p.rs, .int .u64 p.rf, .int .u64 p.og, .int .u64 p.rc, .int .u64 p.xm], .int .i64 0]) ∧ Below W.heap.size W w') :
    Calls Try.prog 45 #[.slice A len cap, .int .u64 k] w fun e w' => e = .returned (.tuple #[.agg #[.int .u8 (told (whyOf k p 0) p).l, .int .u8 (told (whyOf k p 0) p).v, .int .u8 (told (whyOf k p 0) p).m, .int .u8 (told (whyOf k p 0) p).s, .int .i8 (told (whyOf k p 0) p).po, .int .i8 (told (whyOf k p 0) p).pr, .int .u32 (told (whyOf k p 0) p).de, .int .u32 (told (whyOf k p 0) p).di, .int .u32 (told (whyOf k p 0) p).rs, .int .u64 (told (whyOf k p 0) p).rf, .int .u64 (told (whyOf k p 0) p).og, .int .u64 (told (whyOf k p 0) p).rc, .int .u64 (told (whyOf k p 0) p).xm], .int .i64 (whyOf k p 0)]) ∧ Below w.heap.size w w' := by
  have HG := Lib.hid G
  clear G
  have HT := Lib.hid (And.intro (one13 p) (one13 zeroPk))
  have hy := ways k p
  generalize whyOf k p 0 = y at *
  rcases hy with ⟨bv, rfl⟩ | ⟨bv, bm, rfl⟩ | ⟨bv, bm, bo, rfl⟩ | ⟨bv, bm, bo, bk, rfl⟩ | ⟨bv, bm, bo, bk, bs, rfl⟩ | ⟨bv, bm, bo, bk, bs, bl, rfl⟩ | ⟨bv, bm, bo, bk, bs, bl, bg, rfl⟩ | ⟨bv, bm, bo, bk, bs, bl, bg, br, rfl⟩ | ⟨bv, bm, bo, bk, bs, bl, bg, br, bx, rfl⟩ | ⟨bv, bm, bo, bk, bs, bl, bg, br, bx, rfl⟩
  · go_enter Try.func45, Try.ntmps45
    go_wp2_with fail
    refine (HG.out _ (by simp) (fun a ha => World.cell?_alloc_lt _ _ _ ha)).mono ?_
    rintro e w1 ⟨rfl, hb1⟩
    have HR := Lib.hid (result_row1 (ds := #[.int .u8 p.l, .int .u8 p.v, .int .u8 p.m, .int .u8 p.s, .int .i8 p.po, .int .i8 p.pr, .int .u32 p.de, .int .u32 p.di, .int .u32 p.rs, .int .u64 p.rf, .int .u64 p.og, .int .u64 p.rc, .int .u64 p.xm]) (s := 57) hb1)
    clear hb1
    go_wp2_with (refine wpList_store_mine rfl 57 (.tmp 4) (.tmp 58) rfl w.heap.size _ rfl rfl 57 _ HR.out.1 info27 rfl HT.out.2 HR.out.2 (Nat.le_refl _) ?_; intro W hbW hW; have HW := Lib.hid (And.intro hbW hW); clear hbW hW)
    have r0 : W.cell? ⟨w.heap.size, 0, none⟩ = some (.int .u8 zeroPk.l) := HW.out.2 0; have r1 : W.cell? ⟨w.heap.size, 1, none⟩ = some (.int .u8 zeroPk.v) := HW.out.2 1; have r2 : W.cell? ⟨w.heap.size, 2, none⟩ = some (.int .u8 zeroPk.m) := HW.out.2 2; have r3 : W.cell? ⟨w.heap.size, 3, none⟩ = some (.int .u8 zeroPk.s) := HW.out.2 3; have r4 : W.cell? ⟨w.heap.size, 4, none⟩ = some (.int .i8 zeroPk.po) := HW.out.2 4; have r5 : W.cell? ⟨w.heap.size, 5, none⟩ = some (.int .i8 zeroPk.pr) := HW.out.2 5; have r6 : W.cell? ⟨w.heap.size, 6, none⟩ = some (.int .u32 zeroPk.de) := HW.out.2 6; have r7 : W.cell? ⟨w.heap.size, 7, none⟩ = some (.int .u32 zeroPk.di) := HW.out.2 7; have r8 : W.cell? ⟨w.heap.size, 8, none⟩ = some (.int .u32 zeroPk.rs) := HW.out.2 8; have r9 : W.cell? ⟨w.heap.size, 9, none⟩ = some (.int .u64 zeroPk.rf) := HW.out.2 9; have r10 : W.cell? ⟨w.heap.size, 10, none⟩ = some (.int .u64 zeroPk.og) := HW.out.2 10; have r11 : W.cell? ⟨w.heap.size, 11, none⟩ = some (.int .u64 zeroPk.rc) := HW.out.2 11; have r12 : W.cell? ⟨w.heap.size, 12, none⟩ = some (.int .u64 zeroPk.xm) := HW.out.2 12
    exact bodyPost_ret (v := .tuple #[.agg #[.int .u8 zeroPk.l, .int .u8 zeroPk.v, .int .u8 zeroPk.m, .int .u8 zeroPk.s, .int .i8 zeroPk.po, .int .i8 zeroPk.pr, .int .u32 zeroPk.de, .int .u32 zeroPk.di, .int .u32 zeroPk.rs, .int .u64 zeroPk.rf, .int .u64 zeroPk.og, .int .u64 zeroPk.rc, .int .u64 zeroPk.xm], .int .i64 5]) (by simp [results, Try.results45, go_sem, r0, r1, r2, r3, r4, r5, r6, r7, r8, r9, r10, r11, r12]) rfl ⟨rfl, HW.out.1⟩
  · go_enter Try.func45, Try.ntmps45
    go_wp2_with fail
    refine (HG.out _ (by simp) (fun a ha => World.cell?_alloc_lt _ _ _ ha)).mono ?_
    rintro e w1 ⟨rfl, hb1⟩
    have HR := Lib.hid (result_row1 (ds := #[.int .u8 p.l, .int .u8 p.v, .int .u8 p.m, .int .u8 p.s, .int .i8 p.po, .int .i8 p.pr, .int .u32 p.de, .int .u32 p.di, .int .u32 p.rs, .int .u64 p.rf, .int .u64 p.og, .int .u64 p.rc, .int .u64 p.xm]) (s := 57) hb1)
    clear hb1
    go_wp2_with (refine wpList_store_mine rfl 57 (.tmp 4) (.tmp 58) rfl w.heap.size _ rfl rfl 57 _ HR.out.1 info27 rfl HT.out.2 HR.out.2 (Nat.le_refl _) ?_; intro W hbW hW; have HW := Lib.hid (And.intro hbW hW); clear hbW hW)
    have r0 : W.cell? ⟨w.heap.size, 0, none⟩ = some (.int .u8 zeroPk.l) := HW.out.2 0; have r1 : W.cell? ⟨w.heap.size, 1, none⟩ = some (.int .u8 zeroPk.v) := HW.out.2 1; have r2 : W.cell? ⟨w.heap.size, 2, none⟩ = some (.int .u8 zeroPk.m) := HW.out.2 2; have r3 : W.cell? ⟨w.heap.size, 3, none⟩ = some (.int .u8 zeroPk.s) := HW.out.2 3; have r4 : W.cell? ⟨w.heap.size, 4, none⟩ = some (.int .i8 zeroPk.po) := HW.out.2 4; have r5 : W.cell? ⟨w.heap.size, 5, none⟩ = some (.int .i8 zeroPk.pr) := HW.out.2 5; have r6 : W.cell? ⟨w.heap.size, 6, none⟩ = some (.int .u32 zeroPk.de) := HW.out.2 6; have r7 : W.cell? ⟨w.heap.size, 7, none⟩ = some (.int .u32 zeroPk.di) := HW.out.2 7; have r8 : W.cell? ⟨w.heap.size, 8, none⟩ = some (.int .u32 zeroPk.rs) := HW.out.2 8; have r9 : W.cell? ⟨w.heap.size, 9, none⟩ = some (.int .u64 zeroPk.rf) := HW.out.2 9; have r10 : W.cell? ⟨w.heap.size, 10, none⟩ = some (.int .u64 zeroPk.og) := HW.out.2 10; have r11 : W.cell? ⟨w.heap.size, 11, none⟩ = some (.int .u64 zeroPk.rc) := HW.out.2 11; have r12 : W.cell? ⟨w.heap.size, 12, none⟩ = some (.int .u64 zeroPk.xm) := HW.out.2 12
    exact bodyPost_ret (v := .tuple #[.agg #[.int .u8 zeroPk.l, .int .u8 zeroPk.v, .int .u8 zeroPk.m, .int .u8 zeroPk.s, .int .i8 zeroPk.po, .int .i8 zeroPk.pr, .int .u32 zeroPk.de, .int .u32 zeroPk.di, .int .u32 zeroPk.rs, .int .u64 zeroPk.rf, .int .u64 zeroPk.og, .int .u64 zeroPk.rc, .int .u64 zeroPk.xm], .int .i64 6]) (by simp [results, Try.results45, go_sem, r0, r1, r2, r3, r4, r5, r6, r7, r8, r9, r10, r11, r12]) rfl ⟨rfl, HW.out.1⟩
  · go_enter Try.func45, Try.ntmps45
    go_wp2_with fail
    refine (HG.out _ (by simp) (fun a ha => World.cell?_alloc_lt _ _ _ ha)).mono ?_
    rintro e w1 ⟨rfl, hb1⟩
    have HR := Lib.hid (result_row1 (ds := #[.int .u8 p.l, .int .u8 p.v, .int .u8 p.m, .int .u8 p.s, .int .i8 p.po, .int .i8 p.pr, .int .u32 p.de, .int .u32 p.di, .int .u32 p.rs, .int .u64 p.rf, .int .u64 p.og, .int .u64 p.rc, .int .u64 p.xm]) (s := 57) hb1)
    clear hb1
    go_wp2_with (refine wpList_store_mine rfl 57 (.tmp 4) (.tmp 58) rfl w.heap.size _ rfl rfl 57 _ HR.out.1 info27 rfl HT.out.2 HR.out.2 (Nat.le_refl _) ?_; intro W hbW hW; have HW := Lib.hid (And.intro hbW hW); clear hbW hW)
    have r0 : W.cell? ⟨w.heap.size, 0, none⟩ = some (.int .u8 zeroPk.l) := HW.out.2 0; have r1 : W.cell? ⟨w.heap.size, 1, none⟩ = some (.int .u8 zeroPk.v) := HW.out.2 1; have r2 : W.cell? ⟨w.heap.size, 2, none⟩ = some (.int .u8 zeroPk.m) := HW.out.2 2; have r3 : W.cell? ⟨w.heap.size, 3, none⟩ = some (.int .u8 zeroPk.s) := HW.out.2 3; have r4 : W.cell? ⟨w.heap.size, 4, none⟩ = some (.int .i8 zeroPk.po) := HW.out.2 4; have r5 : W.cell? ⟨w.heap.size, 5, none⟩ = some (.int .i8 zeroPk.pr) := HW.out.2 5; have r6 : W.cell? ⟨w.heap.size, 6, none⟩ = some (.int .u32 zeroPk.de) := HW.out.2 6; have r7 : W.cell? ⟨w.heap.size, 7, none⟩ = some (.int .u32 zeroPk.di) := HW.out.2 7; have r8 : W.cell? ⟨w.heap.size, 8, none⟩ = some (.int .u32 zeroPk.rs) := HW.out.2 8; have r9 : W.cell? ⟨w.heap.size, 9, none⟩ = some (.int .u64 zeroPk.rf) := HW.out.2 9; have r10 : W.cell? ⟨w.heap.size, 10, none⟩ = some (.int .u64 zeroPk.og) := HW.out.2 10; have r11 : W.cell? ⟨w.heap.size, 11, none⟩ = some (.int .u64 zeroPk.rc) := HW.out.2 11; have r12 : W.cell? ⟨w.heap.size, 12, none⟩ = some (.int .u64 zeroPk.xm) := HW.out.2 12
    exact bodyPost_ret (v := .tuple #[.agg #[.int .u8 zeroPk.l, .int .u8 zeroPk.v, .int .u8 zeroPk.m, .int .u8 zeroPk.s, .int .i8 zeroPk.po, .int .i8 zeroPk.pr, .int .u32 zeroPk.de, .int .u32 zeroPk.di, .int .u32 zeroPk.rs, .int .u64 zeroPk.rf, .int .u64 zeroPk.og, .int .u64 zeroPk.rc, .int .u64 zeroPk.xm], .int .i64 7]) (by simp [results, Try.results45, go_sem, r0, r1, r2, r3, r4, r5, r6, r7, r8, r9, r10, r11, r12]) rfl ⟨rfl, HW.out.1⟩
  · go_enter Try.func45, Try.ntmps45
    go_wp2_with fail
    refine (HG.out _ (by simp) (fun a ha => World.cell?_alloc_lt _ _ _ ha)).mono ?_
    rintro e w1 ⟨rfl, hb1⟩
    have HR := Lib.hid (result_row1 (ds := #[.int .u8 p.l, .int .u8 p.v, .int .u8 p.m, .int .u8 p.s, .int .i8 p.po, .int .i8 p.pr, .int .u32 p.de, .int .u32 p.di, .int .u32 p.rs, .int .u64 p.rf, .int .u64 p.og, .int .u64 p.rc, .int .u64 p.xm]) (s := 57) hb1)
    clear hb1
    go_wp2_with (refine wpList_store_mine rfl 57 (.tmp 4) (.tmp 58) rfl w.heap.size _ rfl rfl 57 _ HR.out.1 info27 rfl HT.out.2 HR.out.2 (Nat.le_refl _) ?_; intro W hbW hW; have HW := Lib.hid (And.intro hbW hW); clear hbW hW)
    have r0 : W.cell? ⟨w.heap.size, 0, none⟩ = some (.int .u8 zeroPk.l) := HW.out.2 0; have r1 : W.cell? ⟨w.heap.size, 1, none⟩ = some (.int .u8 zeroPk.v) := HW.out.2 1; have r2 : W.cell? ⟨w.heap.size, 2, none⟩ = some (.int .u8 zeroPk.m) := HW.out.2 2; have r3 : W.cell? ⟨w.heap.size, 3, none⟩ = some (.int .u8 zeroPk.s) := HW.out.2 3; have r4 : W.cell? ⟨w.heap.size, 4, none⟩ = some (.int .i8 zeroPk.po) := HW.out.2 4; have r5 : W.cell? ⟨w.heap.size, 5, none⟩ = some (.int .i8 zeroPk.pr) := HW.out.2 5; have r6 : W.cell? ⟨w.heap.size, 6, none⟩ = some (.int .u32 zeroPk.de) := HW.out.2 6; have r7 : W.cell? ⟨w.heap.size, 7, none⟩ = some (.int .u32 zeroPk.di) := HW.out.2 7; have r8 : W.cell? ⟨w.heap.size, 8, none⟩ = some (.int .u32 zeroPk.rs) := HW.out.2 8; have r9 : W.cell? ⟨w.heap.size, 9, none⟩ = some (.int .u64 zeroPk.rf) := HW.out.2 9; have r10 : W.cell? ⟨w.heap.size, 10, none⟩ = some (.int .u64 zeroPk.og) := HW.out.2 10; have r11 : W.cell? ⟨w.heap.size, 11, none⟩ = some (.int .u64 zeroPk.rc) := HW.out.2 11; have r12 : W.cell? ⟨w.heap.size, 12, none⟩ = some (.int .u64 zeroPk.xm) := HW.out.2 12
    exact bodyPost_ret (v := .tuple #[.agg #[.int .u8 zeroPk.l, .int .u8 zeroPk.v, .int .u8 zeroPk.m, .int .u8 zeroPk.s, .int .i8 zeroPk.po, .int .i8 zeroPk.pr, .int .u32 zeroPk.de, .int .u32 zeroPk.di, .int .u32 zeroPk.rs, .int .u64 zeroPk.rf, .int .u64 zeroPk.og, .int .u64 zeroPk.rc, .int .u64 zeroPk.xm], .int .i64 7]) (by simp [results, Try.results45, go_sem, r0, r1, r2, r3, r4, r5, r6, r7, r8, r9, r10, r11, r12]) rfl ⟨rfl, HW.out.1⟩
  · go_enter Try.func45, Try.ntmps45
    go_wp2_with fail
    refine (HG.out _ (by simp) (fun a ha => World.cell?_alloc_lt _ _ _ ha)).mono ?_
    rintro e w1 ⟨rfl, hb1⟩
    have HR := Lib.hid (result_row1 (ds := #[.int .u8 p.l, .int .u8 p.v, .int .u8 p.m, .int .u8 p.s, .int .i8 p.po, .int .i8 p.pr, .int .u32 p.de, .int .u32 p.di, .int .u32 p.rs, .int .u64 p.rf, .int .u64 p.og, .int .u64 p.rc, .int .u64 p.xm]) (s := 57) hb1)
    clear hb1
    go_wp2_with (refine wpList_store_mine rfl 57 (.tmp 4) (.tmp 38) rfl w.heap.size _ rfl rfl 57 _ HR.out.1 info27 rfl HT.out.1 HR.out.2 (Nat.le_refl _) ?_; intro W hbW hW; have HW := Lib.hid (And.intro hbW hW); clear hbW hW)
    have r0 : W.cell? ⟨w.heap.size, 0, none⟩ = some (.int .u8 p.l) := HW.out.2 0; have r1 : W.cell? ⟨w.heap.size, 1, none⟩ = some (.int .u8 p.v) := HW.out.2 1; have r2 : W.cell? ⟨w.heap.size, 2, none⟩ = some (.int .u8 p.m) := HW.out.2 2; have r3 : W.cell? ⟨w.heap.size, 3, none⟩ = some (.int .u8 p.s) := HW.out.2 3; have r4 : W.cell? ⟨w.heap.size, 4, none⟩ = some (.int .i8 p.po) := HW.out.2 4; have r5 : W.cell? ⟨w.heap.size, 5, none⟩ = some (.int .i8 p.pr) := HW.out.2 5; have r6 : W.cell? ⟨w.heap.size, 6, none⟩ = some (.int .u32 p.de) := HW.out.2 6; have r7 : W.cell? ⟨w.heap.size, 7, none⟩ = some (.int .u32 p.di) := HW.out.2 7; have r8 : W.cell? ⟨w.heap.size, 8, none⟩ = some (.int .u32 p.rs) := HW.out.2 8; have r9 : W.cell? ⟨w.heap.size, 9, none⟩ = some (.int .u64 p.rf) := HW.out.2 9; have r10 : W.cell? ⟨w.heap.size, 10, none⟩ = some (.int .u64 p.og) := HW.out.2 10; have r11 : W.cell? ⟨w.heap.size, 11, none⟩ = some (.int .u64 p.rc) := HW.out.2 11; have r12 : W.cell? ⟨w.heap.size, 12, none⟩ = some (.int .u64 p.xm) := HW.out.2 12
    exact bodyPost_ret (v := .tuple #[.agg #[.int .u8 p.l, .int .u8 p.v, .int .u8 p.m, .int .u8 p.s, .int .i8 p.po, .int .i8 p.pr, .int .u32 p.de, .int .u32 p.di, .int .u32 p.rs, .int .u64 p.rf, .int .u64 p.og, .int .u64 p.rc, .int .u64 p.xm], .int .i64 8]) (by simp [results, Try.results45, go_sem, r0, r1, r2, r3, r4, r5, r6, r7, r8, r9, r10, r11, r12]) rfl ⟨rfl, HW.out.1⟩
  · go_enter Try.func45, Try.ntmps45
    go_wp2_with fail
    refine (HG.out _ (by simp) (fun a ha => World.cell?_alloc_lt _ _ _ ha)).mono ?_
    rintro e w1 ⟨rfl, hb1⟩
    have HR := Lib.hid (result_row1 (ds := #[.int .u8 p.l, .int .u8 p.v, .int .u8 p.m, .int .u8 p.s, .int .i8 p.po, .int .i8 p.pr, .int .u32 p.de, .int .u32 p.di, .int .u32 p.rs, .int .u64 p.rf, .int .u64 p.og, .int .u64 p.rc, .int .u64 p.xm]) (s := 57) hb1)
    clear hb1
    go_wp2_with (refine wpList_store_mine rfl 57 (.tmp 4) (.tmp 58) rfl w.heap.size _ rfl rfl 57 _ HR.out.1 info27 rfl HT.out.2 HR.out.2 (Nat.le_refl _) ?_; intro W hbW hW; have HW := Lib.hid (And.intro hbW hW); clear hbW hW)
    have r0 : W.cell? ⟨w.heap.size, 0, none⟩ = some (.int .u8 zeroPk.l) := HW.out.2 0; have r1 : W.cell? ⟨w.heap.size, 1, none⟩ = some (.int .u8 zeroPk.v) := HW.out.2 1; have r2 : W.cell? ⟨w.heap.size, 2, none⟩ = some (.int .u8 zeroPk.m) := HW.out.2 2; have r3 : W.cell? ⟨w.heap.size, 3, none⟩ = some (.int .u8 zeroPk.s) := HW.out.2 3; have r4 : W.cell? ⟨w.heap.size, 4, none⟩ = some (.int .i8 zeroPk.po) := HW.out.2 4; have r5 : W.cell? ⟨w.heap.size, 5, none⟩ = some (.int .i8 zeroPk.pr) := HW.out.2 5; have r6 : W.cell? ⟨w.heap.size, 6, none⟩ = some (.int .u32 zeroPk.de) := HW.out.2 6; have r7 : W.cell? ⟨w.heap.size, 7, none⟩ = some (.int .u32 zeroPk.di) := HW.out.2 7; have r8 : W.cell? ⟨w.heap.size, 8, none⟩ = some (.int .u32 zeroPk.rs) := HW.out.2 8; have r9 : W.cell? ⟨w.heap.size, 9, none⟩ = some (.int .u64 zeroPk.rf) := HW.out.2 9; have r10 : W.cell? ⟨w.heap.size, 10, none⟩ = some (.int .u64 zeroPk.og) := HW.out.2 10; have r11 : W.cell? ⟨w.heap.size, 11, none⟩ = some (.int .u64 zeroPk.rc) := HW.out.2 11; have r12 : W.cell? ⟨w.heap.size, 12, none⟩ = some (.int .u64 zeroPk.xm) := HW.out.2 12
    exact bodyPost_ret (v := .tuple #[.agg #[.int .u8 zeroPk.l, .int .u8 zeroPk.v, .int .u8 zeroPk.m, .int .u8 zeroPk.s, .int .i8 zeroPk.po, .int .i8 zeroPk.pr, .int .u32 zeroPk.de, .int .u32 zeroPk.di, .int .u32 zeroPk.rs, .int .u64 zeroPk.rf, .int .u64 zeroPk.og, .int .u64 zeroPk.rc, .int .u64 zeroPk.xm], .int .i64 9]) (by simp [results, Try.results45, go_sem, r0, r1, r2, r3, r4, r5, r6, r7, r8, r9, r10, r11, r12]) rfl ⟨rfl, HW.out.1⟩
  · go_enter Try.func45, Try.ntmps45
    go_wp2_with fail
    refine (HG.out _ (by simp) (fun a ha => World.cell?_alloc_lt _ _ _ ha)).mono ?_
    rintro e w1 ⟨rfl, hb1⟩
    have HR := Lib.hid (result_row1 (ds := #[.int .u8 p.l, .int .u8 p.v, .int .u8 p.m, .int .u8 p.s, .int .i8 p.po, .int .i8 p.pr, .int .u32 p.de, .int .u32 p.di, .int .u32 p.rs, .int .u64 p.rf, .int .u64 p.og, .int .u64 p.rc, .int .u64 p.xm]) (s := 57) hb1)
    clear hb1
    go_wp2_with (refine wpList_store_mine rfl 57 (.tmp 4) (.tmp 58) rfl w.heap.size _ rfl rfl 57 _ HR.out.1 info27 rfl HT.out.2 HR.out.2 (Nat.le_refl _) ?_; intro W hbW hW; have HW := Lib.hid (And.intro hbW hW); clear hbW hW)
    have r0 : W.cell? ⟨w.heap.size, 0, none⟩ = some (.int .u8 zeroPk.l) := HW.out.2 0; have r1 : W.cell? ⟨w.heap.size, 1, none⟩ = some (.int .u8 zeroPk.v) := HW.out.2 1; have r2 : W.cell? ⟨w.heap.size, 2, none⟩ = some (.int .u8 zeroPk.m) := HW.out.2 2; have r3 : W.cell? ⟨w.heap.size, 3, none⟩ = some (.int .u8 zeroPk.s) := HW.out.2 3; have r4 : W.cell? ⟨w.heap.size, 4, none⟩ = some (.int .i8 zeroPk.po) := HW.out.2 4; have r5 : W.cell? ⟨w.heap.size, 5, none⟩ = some (.int .i8 zeroPk.pr) := HW.out.2 5; have r6 : W.cell? ⟨w.heap.size, 6, none⟩ = some (.int .u32 zeroPk.de) := HW.out.2 6; have r7 : W.cell? ⟨w.heap.size, 7, none⟩ = some (.int .u32 zeroPk.di) := HW.out.2 7; have r8 : W.cell? ⟨w.heap.size, 8, none⟩ = some (.int .u32 zeroPk.rs) := HW.out.2 8; have r9 : W.cell? ⟨w.heap.size, 9, none⟩ = some (.int .u64 zeroPk.rf) := HW.out.2 9; have r10 : W.cell? ⟨w.heap.size, 10, none⟩ = some (.int .u64 zeroPk.og) := HW.out.2 10; have r11 : W.cell? ⟨w.heap.size, 11, none⟩ = some (.int .u64 zeroPk.rc) := HW.out.2 11; have r12 : W.cell? ⟨w.heap.size, 12, none⟩ = some (.int .u64 zeroPk.xm) := HW.out.2 12
    exact bodyPost_ret (v := .tuple #[.agg #[.int .u8 zeroPk.l, .int .u8 zeroPk.v, .int .u8 zeroPk.m, .int .u8 zeroPk.s, .int .i8 zeroPk.po, .int .i8 zeroPk.pr, .int .u32 zeroPk.de, .int .u32 zeroPk.di, .int .u32 zeroPk.rs, .int .u64 zeroPk.rf, .int .u64 zeroPk.og, .int .u64 zeroPk.rc, .int .u64 zeroPk.xm], .int .i64 10]) (by simp [results, Try.results45, go_sem, r0, r1, r2, r3, r4, r5, r6, r7, r8, r9, r10, r11, r12]) rfl ⟨rfl, HW.out.1⟩
  · go_enter Try.func45, Try.ntmps45
    go_wp2_with fail
    refine (HG.out _ (by simp) (fun a ha => World.cell?_alloc_lt _ _ _ ha)).mono ?_
    rintro e w1 ⟨rfl, hb1⟩
    have HR := Lib.hid (result_row1 (ds := #[.int .u8 p.l, .int .u8 p.v, .int .u8 p.m, .int .u8 p.s, .int .i8 p.po, .int .i8 p.pr, .int .u32 p.de, .int .u32 p.di, .int .u32 p.rs, .int .u64 p.rf, .int .u64 p.og, .int .u64 p.rc, .int .u64 p.xm]) (s := 57) hb1)
    clear hb1
    go_wp2_with (refine wpList_store_mine rfl 57 (.tmp 4) (.tmp 58) rfl w.heap.size _ rfl rfl 57 _ HR.out.1 info27 rfl HT.out.2 HR.out.2 (Nat.le_refl _) ?_; intro W hbW hW; have HW := Lib.hid (And.intro hbW hW); clear hbW hW)
    have r0 : W.cell? ⟨w.heap.size, 0, none⟩ = some (.int .u8 zeroPk.l) := HW.out.2 0; have r1 : W.cell? ⟨w.heap.size, 1, none⟩ = some (.int .u8 zeroPk.v) := HW.out.2 1; have r2 : W.cell? ⟨w.heap.size, 2, none⟩ = some (.int .u8 zeroPk.m) := HW.out.2 2; have r3 : W.cell? ⟨w.heap.size, 3, none⟩ = some (.int .u8 zeroPk.s) := HW.out.2 3; have r4 : W.cell? ⟨w.heap.size, 4, none⟩ = some (.int .i8 zeroPk.po) := HW.out.2 4; have r5 : W.cell? ⟨w.heap.size, 5, none⟩ = some (.int .i8 zeroPk.pr) := HW.out.2 5; have r6 : W.cell? ⟨w.heap.size, 6, none⟩ = some (.int .u32 zeroPk.de) := HW.out.2 6; have r7 : W.cell? ⟨w.heap.size, 7, none⟩ = some (.int .u32 zeroPk.di) := HW.out.2 7; have r8 : W.cell? ⟨w.heap.size, 8, none⟩ = some (.int .u32 zeroPk.rs) := HW.out.2 8; have r9 : W.cell? ⟨w.heap.size, 9, none⟩ = some (.int .u64 zeroPk.rf) := HW.out.2 9; have r10 : W.cell? ⟨w.heap.size, 10, none⟩ = some (.int .u64 zeroPk.og) := HW.out.2 10; have r11 : W.cell? ⟨w.heap.size, 11, none⟩ = some (.int .u64 zeroPk.rc) := HW.out.2 11; have r12 : W.cell? ⟨w.heap.size, 12, none⟩ = some (.int .u64 zeroPk.xm) := HW.out.2 12
    exact bodyPost_ret (v := .tuple #[.agg #[.int .u8 zeroPk.l, .int .u8 zeroPk.v, .int .u8 zeroPk.m, .int .u8 zeroPk.s, .int .i8 zeroPk.po, .int .i8 zeroPk.pr, .int .u32 zeroPk.de, .int .u32 zeroPk.di, .int .u32 zeroPk.rs, .int .u64 zeroPk.rf, .int .u64 zeroPk.og, .int .u64 zeroPk.rc, .int .u64 zeroPk.xm], .int .i64 11]) (by simp [results, Try.results45, go_sem, r0, r1, r2, r3, r4, r5, r6, r7, r8, r9, r10, r11, r12]) rfl ⟨rfl, HW.out.1⟩
  · go_enter Try.func45, Try.ntmps45
    go_wp2_with fail
    refine (HG.out _ (by simp) (fun a ha => World.cell?_alloc_lt _ _ _ ha)).mono ?_
    rintro e w1 ⟨rfl, hb1⟩
    have HR := Lib.hid (result_row1 (ds := #[.int .u8 p.l, .int .u8 p.v, .int .u8 p.m, .int .u8 p.s, .int .i8 p.po, .int .i8 p.pr, .int .u32 p.de, .int .u32 p.di, .int .u32 p.rs, .int .u64 p.rf, .int .u64 p.og, .int .u64 p.rc, .int .u64 p.xm]) (s := 57) hb1)
    clear hb1
    go_wp2_with (refine wpList_store_mine rfl 57 (.tmp 4) (.tmp 58) rfl w.heap.size _ rfl rfl 57 _ HR.out.1 info27 rfl HT.out.2 HR.out.2 (Nat.le_refl _) ?_; intro W hbW hW; have HW := Lib.hid (And.intro hbW hW); clear hbW hW)
    have r0 : W.cell? ⟨w.heap.size, 0, none⟩ = some (.int .u8 zeroPk.l) := HW.out.2 0; have r1 : W.cell? ⟨w.heap.size, 1, none⟩ = some (.int .u8 zeroPk.v) := HW.out.2 1; have r2 : W.cell? ⟨w.heap.size, 2, none⟩ = some (.int .u8 zeroPk.m) := HW.out.2 2; have r3 : W.cell? ⟨w.heap.size, 3, none⟩ = some (.int .u8 zeroPk.s) := HW.out.2 3; have r4 : W.cell? ⟨w.heap.size, 4, none⟩ = some (.int .i8 zeroPk.po) := HW.out.2 4; have r5 : W.cell? ⟨w.heap.size, 5, none⟩ = some (.int .i8 zeroPk.pr) := HW.out.2 5; have r6 : W.cell? ⟨w.heap.size, 6, none⟩ = some (.int .u32 zeroPk.de) := HW.out.2 6; have r7 : W.cell? ⟨w.heap.size, 7, none⟩ = some (.int .u32 zeroPk.di) := HW.out.2 7; have r8 : W.cell? ⟨w.heap.size, 8, none⟩ = some (.int .u32 zeroPk.rs) := HW.out.2 8; have r9 : W.cell? ⟨w.heap.size, 9, none⟩ = some (.int .u64 zeroPk.rf) := HW.out.2 9; have r10 : W.cell? ⟨w.heap.size, 10, none⟩ = some (.int .u64 zeroPk.og) := HW.out.2 10; have r11 : W.cell? ⟨w.heap.size, 11, none⟩ = some (.int .u64 zeroPk.rc) := HW.out.2 11; have r12 : W.cell? ⟨w.heap.size, 12, none⟩ = some (.int .u64 zeroPk.xm) := HW.out.2 12
    exact bodyPost_ret (v := .tuple #[.agg #[.int .u8 zeroPk.l, .int .u8 zeroPk.v, .int .u8 zeroPk.m, .int .u8 zeroPk.s, .int .i8 zeroPk.po, .int .i8 zeroPk.pr, .int .u32 zeroPk.de, .int .u32 zeroPk.di, .int .u32 zeroPk.rs, .int .u64 zeroPk.rf, .int .u64 zeroPk.og, .int .u64 zeroPk.rc, .int .u64 zeroPk.xm], .int .i64 11]) (by simp [results, Try.results45, go_sem, r0, r1, r2, r3, r4, r5, r6, r7, r8, r9, r10, r11, r12]) rfl ⟨rfl, HW.out.1⟩
  · go_enter Try.func45, Try.ntmps45
    go_wp2_with fail
    refine (HG.out _ (by simp) (fun a ha => World.cell?_alloc_lt _ _ _ ha)).mono ?_
    rintro e w1 ⟨rfl, hb1⟩
    have HR := Lib.hid (result_row1 (ds := #[.int .u8 p.l, .int .u8 p.v, .int .u8 p.m, .int .u8 p.s, .int .i8 p.po, .int .i8 p.pr, .int .u32 p.de, .int .u32 p.di, .int .u32 p.rs, .int .u64 p.rf, .int .u64 p.og, .int .u64 p.rc, .int .u64 p.xm]) (s := 57) hb1)
    clear hb1
    go_wp2_with (refine wpList_store_mine rfl 57 (.tmp 4) (.tmp 60) rfl w.heap.size _ rfl rfl 57 _ HR.out.1 info27 rfl HT.out.1 HR.out.2 (Nat.le_refl _) ?_; intro W hbW hW; have HW := Lib.hid (And.intro hbW hW); clear hbW hW)
    have r0 : W.cell? ⟨w.heap.size, 0, none⟩ = some (.int .u8 p.l) := HW.out.2 0; have r1 : W.cell? ⟨w.heap.size, 1, none⟩ = some (.int .u8 p.v) := HW.out.2 1; have r2 : W.cell? ⟨w.heap.size, 2, none⟩ = some (.int .u8 p.m) := HW.out.2 2; have r3 : W.cell? ⟨w.heap.size, 3, none⟩ = some (.int .u8 p.s) := HW.out.2 3; have r4 : W.cell? ⟨w.heap.size, 4, none⟩ = some (.int .i8 p.po) := HW.out.2 4; have r5 : W.cell? ⟨w.heap.size, 5, none⟩ = some (.int .i8 p.pr) := HW.out.2 5; have r6 : W.cell? ⟨w.heap.size, 6, none⟩ = some (.int .u32 p.de) := HW.out.2 6; have r7 : W.cell? ⟨w.heap.size, 7, none⟩ = some (.int .u32 p.di) := HW.out.2 7; have r8 : W.cell? ⟨w.heap.size, 8, none⟩ = some (.int .u32 p.rs) := HW.out.2 8; have r9 : W.cell? ⟨w.heap.size, 9, none⟩ = some (.int .u64 p.rf) := HW.out.2 9; have r10 : W.cell? ⟨w.heap.size, 10, none⟩ = some (.int .u64 p.og) := HW.out.2 10; have r11 : W.cell? ⟨w.heap.size, 11, none⟩ = some (.int .u64 p.rc) := HW.out.2 11; have r12 : W.cell? ⟨w.heap.size, 12, none⟩ = some (.int .u64 p.xm) := HW.out.2 12
    exact bodyPost_ret (v := .tuple #[.agg #[.int .u8 p.l, .int .u8 p.v, .int .u8 p.m, .int .u8 p.s, .int .i8 p.po, .int .i8 p.pr, .int .u32 p.de, .int .u32 p.di, .int .u32 p.rs, .int .u64 p.rf, .int .u64 p.og, .int .u64 p.rc, .int .u64 p.xm], .int .i64 0]) (by simp [results, Try.results45, go_sem, r0, r1, r2, r3, r4, r5, r6, r7, r8, r9, r10, r11, r12]) rfl ⟨rfl, HW.out.1⟩

theorem rlook_long (g o len cap : Nat) (zs : List Int) (k : Int) (w : World) (hl : zs.length = len) (h48 : 48 ≤ len) (hlc : len ≤ cap) (hcm : cap ≤ maxLen) (hb : AllBytes zs) (hg : g < w.heap.size) (hc : Has w g o zs) :
    Calls Try.prog 45 #[.slice (some ⟨g, o, none⟩) len cap, .int .u64 k] w fun e w' => e = .returned (.tuple #[.agg #[.int .u8 (lookP k zs).l, .int .u8 (lookP k zs).v, .int .u8 (lookP k zs).m, .int .u8 (lookP k zs).s, .int .i8 (lookP k zs).po, .int .i8 (lookP k zs).pr, .int .u32 (lookP k zs).de, .int .u32 (lookP k zs).di, .int .u32 (lookP k zs).rs, .int .u64 (lookP k zs).rf, .int .u64 (lookP k zs).og, .int .u64 (lookP k zs).rc, .int .u64 (lookP k zs).xm], .int .i64 (lookW k zs)]) ∧ Below w.heap.size w w' := by
  unfold lookP lookW
  rw [if_neg (by omega), if_neg (by omega)]
  exact rlook_in _ len cap k (pkOf zs) w (fun W hW hcW => rget_ok g o len cap zs W hl h48 hlc hcm hb (by omega) (has_keep hg hcW hc))
theorem rlook_short (A : Option Addr) (len cap : Nat) (zs : List Int) (k : Int) (w : World) (hl : zs.length = len) (h48 : len < 48) :
    Calls Try.prog 45 #[.slice A len cap, .int .u64 k] w fun e w' => e = .returned (.tuple #[.agg #[.int .u8 (lookP k zs).l, .int .u8 (lookP k zs).v, .int .u8 (lookP k zs).m, .int .u8 (lookP k zs).s, .int .i8 (lookP k zs).po, .int .i8 (lookP k zs).pr, .int .u32 (lookP k zs).de, .int .u32 (lookP k zs).di, .int .u32 (lookP k zs).rs, .int .u64 (lookP k zs).rf, .int .u64 (lookP k zs).og, .int .u64 (lookP k zs).rc, .int .u64 (lookP k zs).xm], .int .i64 (lookW k zs)]) ∧ Below w.heap.size w w' := by
  unfold lookP lookW
  rw [if_pos (by omega), if_pos (by omega)]
  have KG := Lib.hid (fun w => rget_short A len cap w h48)
  have HT := Lib.hid (one13 zeroPk)
  go_enter Try.func45, Try.ntmps45
  go_wp2_with fail
  refine (KG.out _).mono ?_
  rintro e w1 ⟨rfl, hb1⟩
  have HR := Lib.hid (result_row1 (ds := #[.int .u8 zeroPk.l, .int .u8 zeroPk.v, .int .u8 zeroPk.m, .int .u8 zeroPk.s, .int .i8 zeroPk.po, .int .i8 zeroPk.pr, .int .u32 zeroPk.de, .int .u32 zeroPk.di, .int .u32 zeroPk.rs, .int .u64 zeroPk.rf, .int .u64 zeroPk.og, .int .u64 zeroPk.rc, .int .u64 zeroPk.xm]) (s := 57) hb1)
  clear hb1
  go_wp2_with (refine wpList_store_mine rfl 57 (.tmp 4) (.tmp 16) rfl w.heap.size _ rfl rfl 57 _ HR.out.1 info27 rfl HT.out HR.out.2 (Nat.le_refl _) ?_; intro W hbW hW; have HW := Lib.hid (And.intro hbW hW); clear hbW hW)
  have r0 : W.cell? ⟨w.heap.size, 0, none⟩ = some (.int .u8 zeroPk.l) := HW.out.2 0; have r1 : W.cell? ⟨w.heap.size, 1, none⟩ = some (.int .u8 zeroPk.v) := HW.out.2 1; have r2 : W.cell? ⟨w.heap.size, 2, none⟩ = some (.int .u8 zeroPk.m) := HW.out.2 2; have r3 : W.cell? ⟨w.heap.size, 3, none⟩ = some (.int .u8 zeroPk.s) := HW.out.2 3; have r4 : W.cell? ⟨w.heap.size, 4, none⟩ = some (.int .i8 zeroPk.po) := HW.out.2 4; have r5 : W.cell? ⟨w.heap.size, 5, none⟩ = some (.int .i8 zeroPk.pr) := HW.out.2 5; have r6 : W.cell? ⟨w.heap.size, 6, none⟩ = some (.int .u32 zeroPk.de) := HW.out.2 6; have r7 : W.cell? ⟨w.heap.size, 7, none⟩ = some (.int .u32 zeroPk.di) := HW.out.2 7; have r8 : W.cell? ⟨w.heap.size, 8, none⟩ = some (.int .u32 zeroPk.rs) := HW.out.2 8; have r9 : W.cell? ⟨w.heap.size, 9, none⟩ = some (.int .u64 zeroPk.rf) := HW.out.2 9; have r10 : W.cell? ⟨w.heap.size, 10, none⟩ = some (.int .u64 zeroPk.og) := HW.out.2 10; have r11 : W.cell? ⟨w.heap.size, 11, none⟩ = some (.int .u64 zeroPk.rc) := HW.out.2 11; have r12 : W.cell? ⟨w.heap.size, 12, none⟩ = some (.int .u64 zeroPk.xm) := HW.out.2 12
  exact bodyPost_ret (v := .tuple #[.agg #[.int .u8 zeroPk.l, .int .u8 zeroPk.v, .int .u8 zeroPk.m, .int .u8 zeroPk.s, .int .i8 zeroPk.po, .int .i8 zeroPk.pr, .int .u32 zeroPk.de, .int .u32 zeroPk.di, .int .u32 zeroPk.rs, .int .u64 zeroPk.rf, .int .u64 zeroPk.og, .int .u64 zeroPk.rc, .int .u64 zeroPk.xm], .int .i64 1]) (by simp [results, Try.results45, go_sem, r0, r1, r2, r3, r4, r5, r6, r7, r8, r9, r10, r11, r12]) rfl ⟨rfl, HW.out.1⟩
end Go.Proofs.Ytfknefpfekjnnaa
