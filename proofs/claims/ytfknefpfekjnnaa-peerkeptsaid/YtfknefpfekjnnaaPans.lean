/- Answer of package peer. -/
import Derived.Test.YtfknefpfekjnnaaPl
import Derived.Test.YtfknefpfekjnnaaMake
import Derived.BigQuiet
import Derived.Lib.QuietBelow
namespace Go.Proofs.Ytfknefpfekjnnaa
open Go.RowKit

abbrev smp (o d a s : Int) : Array Value := #[.int .i64 o, .int .i64 d, .int .i64 a, .int .i64 s]
theorem info47 : (Try.prog.info? 47).map (·.size) = some 4 := by kernel_rfl
theorem one4 (a b c d : Int) : (#[.int .i64 a, .int .i64 b, .int .i64 c, .int .i64 d] : Array Value).all (·.oneCell') = true := by simp [Value.oneCell']
/-- The reason that Answer tells. -/
def Pr.ansY (k : Pr) (x : Int) (zs : List Int) : Int := if k.st = 2 then 3 else if k.st = 0 then 4 else k.why x zs
def Pr.ans (k : Pr) (x : Int) (zs : List Int) : Pr := if k.ansY x zs = 8 then k.kiss else if k.ansY x zs = 0 then k.good else k
def Pr.smp (k : Pr) (x c s : Int) (zs : List Int) : Array Value := if k.ansY x zs = 0 then Go.Proofs.Ytfknefpfekjnnaa.smp (offs k.clk c (k.got x zs).rc (k.got x zs).xm) (tooks k.clk c (k.got x zs).rc (k.got x zs).xm) x s else Go.Proofs.Ytfknefpfekjnnaa.smp 0 0 0 0
/-- A store into a block of the call's own leaves the rest. -/
theorem res_two {p b g : Nat} {w w1 W : World} (hb : ∀ B w0, Below B w0 w1 → B ≤ g → Below B w0 W) (ho : ∀ j, j ≠ g → W.heap[j]? = w1.heap[j]?) (ht : Two p b w w1) (hg : w.heap.size ≤ g) : Two p b w W := by
  have h0 := hb g w1 (Below.refl _ _) (Nat.le_refl _)
  exact ⟨h0.os.trans ht.os, h0.tape.trans ht.tape, h0.output.trans ht.output, Nat.le_trans ht.size h0.size, fun j hj h1 h2 => (ho j (by omega)).trans (ht.block j hj h1 h2)⟩
theorem res_pe {p b g : Nat} {w1 W : World} {k : Pr} (ho : ∀ j, j ≠ g → W.heap[j]? = w1.heap[j]?) (h : Pe w1 p b k) (h1 : p ≠ g) (h2 : b ≠ g) : Pe W p b k := ⟨(ho p h1).trans h.blk, (ho b h2).trans h.bk⟩
section
variable (p b : Nat) (k : Pr) (w : World) (h : Pe w p b k)
include h
set_option maxHeartbeats 2000000 in
theorem panswer_no (x c s : Int) (v : Value) (h1 : k.st = 0 ∨ k.st = 2) : Calls Try.prog 18 #[.pointer (some ⟨p, 0, none⟩), .int .i64 x, .int .i64 c, .int .i64 s, v] w fun e w' => e = .returned (.tuple #[.agg (smp 0 0 0 0), .int .i64 (if k.st = 2 then 3 else 4)]) ∧ Below w.heap.size w w' := by
  have K := Lib.hid (plook_no p b k _ (h.below (bel_alloc w (.cells (smp 0 0 0 0) 47))) x v h1)
  obtain ⟨y, hy⟩ : ∃ y : Int, y = if k.st = 2 then 3 else 4 := ⟨_, rfl⟩
  rw [← hy] at K ⊢
  have h8 : (y == 8) = false := by rcases h1 with e | e <;> rw [e] at hy <;> simp at hy <;> subst hy <;> rfl
  have h0 : (y == 0) = false := by rcases h1 with e | e <;> rw [e] at hy <;> simp at hy <;> subst hy <;> rfl
  clear hy h1 h
  go_enter Try.func18, Try.ntmps18
  go_wp2_with fail
  refine K.out.mono ?_
  rintro e w1 ⟨rfl, hb⟩
  have HR := Lib.hid (box_old (o2 := .cells zeroPk.arr 57) hb (Below.refl _ _))
  clear hb
  go_wp2_with (refine wpList_store_res rfl 47 (.tmp 10) (.tmp 30) rfl w.heap.size (smp 0 0 0 0) rfl rfl 47 _ HR.out.2.2 info47 rfl (one4 _ _ _ _) ?_; intro W hW hbW hW2; have HW := Lib.hid (And.intro hW (hbW _ _ (bel_trans HR.out.2.1 (bel_alloc _ _)) (Nat.le_refl _))); clear hW hbW hW2)
  exact bodyPost_ret (results_cell2 (g := w.heap.size) rfl _ _ _ _ _ _ rfl HW.out.1 Try.underlying47 rfl info47) rfl ⟨rfl, HW.out.2⟩
set_option maxRecDepth 100000 in
set_option maxHeartbeats 2000000 in
theorem panswer_not (o : k.Ok) (x c s : Int) (h1 : k.st = 1) (A : Option Addr) (len cap : Nat) (zs : List Int) (hz : Bytes w A len cap zs) (h8 : k.why x zs ≠ 8) (h0 : k.why x zs ≠ 0) : Calls Try.prog 18 #[.pointer (some ⟨p, 0, none⟩), .int .i64 x, .int .i64 c, .int .i64 s, .slice A len cap] w fun e w' => e = .returned (.tuple #[.agg (smp 0 0 0 0), .int .i64 (k.why x zs)]) ∧ Below w.heap.size w w' := by
  have K := Lib.hid (plook_any p b k _ (h.below (bel_alloc w (.cells (smp 0 0 0 0) 47))) o x h1 A len cap zs (bytes_below hz (bel_alloc w (.cells (smp 0 0 0 0) 47))))
  clear h hz o h1
  generalize k.why x zs = y at *
  generalize k.got x zs = q at *
  have g8 : (y == 8) = false := by simp [h8]
  have g0 : (y == 0) = false := by simp [h0]
  go_enter Try.func18, Try.ntmps18
  go_wp2_with fail
  refine K.out.mono ?_
  rintro e w1 ⟨rfl, hb⟩
  have HR := Lib.hid (box_old (o2 := .cells q.arr 57) hb (Below.refl _ _))
  clear hb
  go_wp2_with (refine wpList_store_res rfl 47 (.tmp 10) (.tmp 30) rfl w.heap.size (smp 0 0 0 0) rfl rfl 47 _ HR.out.2.2 info47 rfl (one4 _ _ _ _) ?_; intro W hW hbW hW2; have HW := Lib.hid (And.intro hW (hbW _ _ (bel_trans HR.out.2.1 (bel_alloc _ _)) (Nat.le_refl _))); clear hW hbW hW2)
  exact bodyPost_ret (results_cell2 (g := w.heap.size) rfl _ _ _ _ _ _ rfl HW.out.1 Try.underlying47 rfl info47) rfl ⟨rfl, HW.out.2⟩
set_option maxRecDepth 100000 in
set_option maxHeartbeats 2000000 in
theorem panswer_kiss (o : k.Ok) (x c s : Int) (h1 : k.st = 1) (A : Option Addr) (len cap : Nat) (zs : List Int) (hz : Bytes w A len cap zs) (h8 : k.why x zs = 8) : Calls Try.prog 18 #[.pointer (some ⟨p, 0, none⟩), .int .i64 x, .int .i64 c, .int .i64 s, .slice A len cap] w fun e w' => e = .returned (.tuple #[.agg (smp 0 0 0 0), .int .i64 8]) ∧ Pe w' p b k.kiss ∧ Two p b w w' := by
  have K := Lib.hid (plook_any p b k _ (h.below (bel_alloc w (.cells (smp 0 0 0 0) 47))) o x h1 A len cap zs (bytes_below hz (bel_alloc w (.cells (smp 0 0 0 0) 47))))
  rw [h8] at K
  have HH := Lib.hid h
  have hlt := h.lt
  have hlb := h.bk.lt
  clear h hz o h8
  generalize k.got x zs = q at *
  obtain ⟨l, m, d, n, t, st, due, sent, clk, ck⟩ := k
  simp only [Pr.kiss] at *
  clear h1
  go_enter Try.func18, Try.ntmps18
  go_wp2_with fail
  refine K.out.mono ?_
  rintro e w1 ⟨rfl, hb⟩
  have HR := Lib.hid (box_old (o2 := .cells q.arr 57) hb (Below.refl _ _))
  clear hb
  have HP := Lib.hid (HH.out.below (bel_trans HR.out.2.1 (bel_alloc w1 (.cells q.arr 57))))
  have p2 : (w1.alloc (.cells q.arr 57)).frozen? ⟨p, 2, none⟩ = false := frozen_row HP.out.blk 2
  obtain ⟨f0, f1, f2, f3, f4, f5, f6⟩ := HP.out.facts
  obtain ⟨W0, hW0⟩ : ∃ W0, W0 = w1.alloc (.cells q.arr 57) := ⟨_, rfl⟩
  have HS : Hid (Pe (W0.setCell ⟨p, 2, none⟩ (.int .i64 2)) p b ⟨l, m, d, n, t, 2, due, sent, clk, ck⟩ ∧ But p w (W0.setCell ⟨p, 2, none⟩ (.int .i64 2)) ∧ (W0.setCell ⟨p, 2, none⟩ (.int .i64 2)).heap[w.heap.size]? = some (.cells (smp 0 0 0 0) 47)) := by
    have hP := HP.out
    rw [← hW0] at hP
    have e1 := heap_setCell_same _ p 2 (.int .i64 2) _ _ _ hP.blk
    have hb : But p W0 (W0.setCell ⟨p, 2, none⟩ (.int .i64 2)) := (But.of_below (b := p) (Below.refl _ W0)).setCell 2 (.int .i64 2)
    have hR := HR.out
    rw [← hW0] at hR
    refine ⟨⟨e1, hb.bk hP.bk (fun e => hP.ne e.symm)⟩, ?_, ?_⟩
    · refine (But.of_below ?_).trans hb
      rw [hW0]; exact bel_trans hR.2.1 (bel_alloc _ _)
    · exact (hb.block _ (heap_lt hR.2.2) (by omega)).trans hR.2.2
  rw [hW0] at HS
  clear hW0 f0 f1 f3 f4 f5 f6
  go_wp2_with (refine wpList_store_res rfl 47 (.tmp 10) (.tmp 30) rfl w.heap.size (smp 0 0 0 0) rfl rfl 47 _ HS.out.2.2 info47 rfl (one4 _ _ _ _) ?_; intro W hW hbW hW2; have HW := Lib.hid (And.intro hW (And.intro hbW hW2)); clear hW hbW hW2)
  refine bodyPost_ret (results_cell2 (g := w.heap.size) rfl _ _ _ _ _ _ rfl HW.out.1 Try.underlying47 rfl info47) rfl ⟨rfl, ?_, ?_⟩
  · exact res_pe HW.out.2.2 HS.out.1 (by omega) (by omega)
  · exact res_two HW.out.2.1 HW.out.2.2 (Two.of_but' HS.out.2.1) (Nat.le_refl _)
set_option maxRecDepth 100000 in
set_option maxHeartbeats 4000000 in
theorem panswer_good (o : k.Ok) (x c s : Int) (c1 : -9223372036854775808 ≤ c) (c2 : c ≤ 9223372036854775807) (h1 : k.st = 1) (A : Option Addr) (len cap : Nat) (zs : List Int) (hz : Bytes w A len cap zs) (h8 : k.why x zs = 0) : Calls Try.prog 18 #[.pointer (some ⟨p, 0, none⟩), .int .i64 x, .int .i64 c, .int .i64 s, .slice A len cap] w fun e w' => e = .returned (.tuple #[.agg (smp (offs k.clk c (k.got x zs).rc (k.got x zs).xm) (tooks k.clk c (k.got x zs).rc (k.got x zs).xm) x s), .int .i64 0]) ∧ Pe w' p b k.good ∧ Two p b w w' := by
  have K := Lib.hid (plook_any p b k _ (h.below (bel_alloc w (.cells (smp 0 0 0 0) 47))) o x h1 A len cap zs (bytes_below hz (bel_alloc w (.cells (smp 0 0 0 0) 47))))
  rw [h8] at K
  have HH := Lib.hid h
  have hlt := h.lt
  have hlb := h.bk.lt
  generalize k.got x zs = q at *
  have KM := Lib.hid (fun w => make_any k.clk c q.rc q.xm w o.c1 o.c2 c1 c2)
  have KG := Lib.hid (fun w1 (h : Pe w1 p b k) => bkgood_any b k.bk w1 h.bk)
  have KR := Lib.hid (fun w2 (h2 : Pe w2 p b { k with n := k.l, t := 0 }) => rest_any p b _ w2 h2 k.l o.s1 o.s2 (by have := o.l1; omega) (by have := o.lm; have := o.m1; omega))
  clear h hz o h8 c1 c2
  simp only [Pr.bk] at KG
  generalize offs k.clk c q.rc q.xm = x1 at *
  generalize tooks k.clk c q.rc q.xm = x2 at *
  go_enter Try.func18, Try.ntmps18
  go_wp2_with fail
  refine K.out.mono ?_
  rintro e w1 ⟨rfl, hb⟩
  have HR := Lib.hid (box_old (o2 := .cells q.arr 57) hb (Below.refl _ _))
  clear hb
  have HP := Lib.hid (HH.out.below (bel_trans HR.out.2.1 (bel_alloc w1 (.cells q.arr 57))))
  obtain ⟨f0, f1, f2, f3, f4, f5, f6⟩ := HP.out.facts
  have KG1 := Lib.hid (KG.out _ HP.out)
  clear f1 f2 f3 f4 f5 f6 KG
  go_wp2_with fail
  refine KG1.out.mono ?_
  rintro e w2 ⟨rfl, hb2, hc2⟩
  have H2 := Lib.hid (And.intro (HP.out.good hb2 hc2) (And.intro ((Two.of_below (p := p) (b := b) (bel_trans HR.out.2.1 (bel_alloc w1 (.cells q.arr 57)))).trans (Two.of_but hc2)) (And.intro ((hc2.block _ (heap_lt HR.out.2.2) (by omega)).trans HR.out.2.2) ((hc2.block w1.heap.size (by simp) (by have := HR.out.2.1.size; omega)).trans (heap_alloc_new w1 _)))))
  have KR2 := Lib.hid (KR.out w2 H2.out.1)
  have hs1 := HR.out.2.1.size
  clear hb2 hc2 f0 KR KG1 HP HR
  go_wp2_with fail
  refine KR2.out.mono ?_
  rintro e w3 ⟨rfl, h3, hc3⟩
  have H3 := Lib.hid (And.intro h3 (And.intro (H2.out.2.1.trans (Two.of_but' hc3)) (And.intro ((hc3.block _ (heap_lt H2.out.2.2.1) (by omega)).trans H2.out.2.2.1) ((hc3.block w1.heap.size (heap_lt H2.out.2.2.2) (by omega)).trans H2.out.2.2.2))))
  obtain ⟨g0, g1, g2, g3, g4, g5, g6⟩ := h3.facts
  have r11 : w3.cell? ⟨w1.heap.size, 11, none⟩ = some (.int .u64 q.rc) := cell_of_row _ _ 11 _ _ _ H3.out.2.2.2
  have r12 : w3.cell? ⟨w1.heap.size, 12, none⟩ = some (.int .u64 q.xm) := cell_of_row _ _ 12 _ _ _ H3.out.2.2.2
  have e5 := fun d os => cell_regrown g5 d os
  have e11 := fun d os => cell_regrown r11 d os
  have e12 := fun d os => cell_regrown r12 d os
  simp only [Pr.rest] at e5
  have k0 : ∀ d os, Calls Try.prog 44 #[.int .i64 k.clk, .int .i64 c, .int .u64 q.rc, .int .u64 q.xm] (Sort.grow (redrawn w3 d) os) fun e w'' => e = .returned (.tuple #[.int .i64 x1, .int .i64 x2]) ∧ ∃ p : Regrown, w'' = Sort.grow (redrawn w3 p.d) p.os := fun d os => Calls.regrown_of (KM.out _)
  clear h3 hc3 H2 KR2 g0 g1 g2 g3 g4 g5 g6 r11 r12
  go_wp2_with fail
  refine wp_region_quiet_below (by kernel_rfl) (by kernel_rfl) ?_
  repeat (go_big_quiet_step (with_reducible exact k0 _ _))
  refine wpQuiet_nil ?_
  intro w4 hw'
  have hb4 : Below w3.heap.size w3 w4 := by
    obtain ⟨⟨dq, osq⟩, hw''⟩ := hw'
    rw [hw'']; exact below_regrown w3 dq osq
  have H4 := Lib.hid (And.intro (H3.out.1.below hb4) (And.intro (H3.out.2.1.trans (Two.of_below hb4)) ((hb4.block _ (heap_lt H3.out.2.2.1)).trans H3.out.2.2.1)))
  clear hw' k0 e5 e11 e12 hb4 H3
  go_wp2_with (refine wpList_store_res rfl 47 (.tmp 10) (.tmp 58) rfl w.heap.size (smp x1 x2 x s) rfl rfl 47 _ H4.out.2.2 info47 rfl (one4 _ _ _ _) ?_; intro W hW hbW hW2; have HW := Lib.hid (And.intro hW (And.intro hbW hW2)); clear hW hbW hW2)
  refine bodyPost_ret (results_cell2 (g := w.heap.size) rfl _ _ _ _ _ _ rfl HW.out.1 Try.underlying47 rfl info47) rfl ⟨rfl, ?_, ?_⟩
  · exact res_pe HW.out.2.2 H4.out.1 (by omega) (by omega)
  · exact res_two HW.out.2.1 HW.out.2.2 H4.out.2.1 (Nat.le_refl _)
theorem panswer_any (o : k.Ok) (x c s : Int) (c1 : -9223372036854775808 ≤ c) (c2 : c ≤ 9223372036854775807) (A : Option Addr) (len cap : Nat) (zs : List Int) (hz : Bytes w A len cap zs) : Calls Try.prog 18 #[.pointer (some ⟨p, 0, none⟩), .int .i64 x, .int .i64 c, .int .i64 s, .slice A len cap] w fun e w' => e = .returned (.tuple #[.agg (k.smp x c s zs), .int .i64 (k.ansY x zs)]) ∧ Pe w' p b (k.ans x zs) ∧ Two p b w w' := by
  unfold Pr.smp Pr.ans Pr.ansY
  by_cases h2 : k.st = 2
  · rw [if_pos h2, if_neg (by decide), if_neg (by decide), if_neg (by decide)]
    refine (panswer_no p b k w h x c s _ (.inr h2)).mono ?_
    rintro e w' ⟨rfl, hb⟩
    rw [if_pos h2]
    exact ⟨rfl, h.below hb, Two.of_below hb⟩
  · rw [if_neg h2]
    by_cases h0 : k.st = 0
    · rw [if_pos h0, if_neg (by decide), if_neg (by decide), if_neg (by decide)]
      refine (panswer_no p b k w h x c s _ (.inl h0)).mono ?_
      rintro e w' ⟨rfl, hb⟩
      rw [if_neg h2]
      exact ⟨rfl, h.below hb, Two.of_below hb⟩
    · have h1 : k.st = 1 := by have := o.st3; omega
      rw [if_neg h0]
      by_cases y8 : k.why x zs = 8
      · rw [y8, if_neg (by decide), if_pos rfl]
        exact panswer_kiss p b k w h o x c s h1 A len cap zs hz y8
      · rw [if_neg y8]
        by_cases y0 : k.why x zs = 0
        · rw [if_pos y0, if_pos y0]
          refine (panswer_good p b k w h o x c s c1 c2 h1 A len cap zs hz y0).mono ?_
          rintro e w' ⟨rfl, hp⟩
          rw [y0]
          exact ⟨rfl, hp⟩
        · rw [if_neg y0, if_neg y0]
          refine (panswer_not p b k w h o x c s h1 A len cap zs hz y8 y0).mono ?_
          rintro e w' ⟨rfl, hb⟩
          exact ⟨rfl, h.below hb, Two.of_below hb⟩
theorem plate_any (o : k.Ok) (ht : k.t ≤ 1000000000000) (x : Int) : Calls Try.prog 15 #[.pointer (some ⟨p, 0, none⟩), .int .i64 x] w fun e w' => e = .returned (.bool (k.isLate x)) ∧ Pe w' p b (if k.isLate x = true then k.fail else k) ∧ Two p b w w' := by
  cases hl : k.isLate x with
  | true =>
    rw [if_pos rfl]
    exact plate_yes p b k w h o ht x hl
  | false =>
    rw [if_neg (by decide)]
    refine (plate_no p b k w h o x hl).mono ?_
    rintro e w' ⟨rfl, hb⟩
    exact ⟨rfl, h.below hb, Two.of_below hb⟩
end
end Go.Proofs.Ytfknefpfekjnnaa
