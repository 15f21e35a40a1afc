/- The document's New and Answer. -/
import Derived.Test.YtfknefpfekjnnaaRp
import Derived.Test.YtfknefpfekjnnaaPans
namespace Go.Proofs.Ytfknefpfekjnnaa
open Go.RowKit

section
variable (v : Value) (c : Cfg) (w : World) (hs : Ints w v c.S) (hl : c.S.length ≤ 1000000) (h : Int)
include hs hl
set_option maxHeartbeats 1000000 in
theorem rnew_bad (he : pnewE c h ≠ 0) : Calls Try.prog 12 #[cval v c, .int .i64 h] w fun e w' => e = .returned (.tuple #[.pointer none, .int .i64 (pnewE c h)]) ∧ Below w.heap.size w w' := by
  have KC := Lib.hid (fun o => rcheck_any v c (w.alloc o) (hs.alloc o) hl)
  unfold pnewE at *
  obtain ⟨S, q, l, m, d, s⟩ := c
  generalize checkOf (Cfg.mk S q l m d s) = C at *
  unfold cval at *
  simp only at *
  clear hs hl
  by_cases h0 : C = 0
  · subst h0
    rw [if_pos rfl] at he ⊢
    have hh : hm h = false := by cases hh : hm h with | false => rfl | true => rw [hh] at he; exact absurd rfl he
    rw [hh]
    have hx : h < 0 ∨ 4611686018427387903 < h := by
      have := of_decide_eq_false hh
      omega
    clear he hh
    rcases hx with hx | hx
    · go_enter Try.func12, Try.ntmps12
      go_wp2_with fail
      refine (KC.out _).mono ?_
      rintro e w1 ⟨rfl, hb⟩
      have HB := Lib.hid (bel_box hb).2
      clear hb
      go_wp2
      go_ret2
      exact ⟨rfl, HB.out⟩
    · have hx0 : ¬ h < 0 := by omega
      go_enter Try.func12, Try.ntmps12
      go_wp2_with fail
      refine (KC.out _).mono ?_
      rintro e w1 ⟨rfl, hb⟩
      have HB := Lib.hid (bel_box hb).2
      clear hb
      go_wp2
      go_ret2
      exact ⟨rfl, HB.out⟩
  · rw [if_neg h0]
    have h1 : ((C : Int) == 0) = false := by simp; omega
    clear he
    go_enter Try.func12, Try.ntmps12
    go_wp2_with fail
    refine (KC.out _).mono ?_
    rintro e w1 ⟨rfl, hb⟩
    have HB := Lib.hid (bel_box hb).2
    clear hb
    go_wp2
    go_ret2
    exact ⟨rfl, HB.out⟩
set_option maxHeartbeats 1000000 in
theorem rnew_ok (he : pnewE c h = 0) : Calls Try.prog 12 #[cval v c, .int .i64 h] w fun e w' =>
    ∃ r, e = .returned (.tuple #[.pointer (some ⟨r, 0, none⟩), .int .i64 0]) ∧ w.heap.size ≤ r ∧ Re w' r (Pr.new c h) ∧ Below w.heap.size w w' := by
  obtain ⟨e1, e2⟩ := pnewE_ok he
  have KC := Lib.hid (fun o => rcheck_any v c (w.alloc o) (hs.alloc o) hl)
  rw [e1] at KC
  obtain ⟨A, cp, rfl, _⟩ := hs.len
  have hh := hm_t e2
  have h1 : ¬ h < 0 := by omega
  have h2 : ¬ 4611686018427387903 < h := by omega
  obtain ⟨S, q, l, m, d, s⟩ := c
  generalize S.length = N at *
  unfold cval Pr.new at *
  simp only at *
  clear hs e1 e2 he hl hh
  go_enter Try.func12, Try.ntmps12
  go_wp2_with fail
  refine (KC.out _).mono ?_
  rintro e w1 ⟨rfl, hb⟩
  have HB := Lib.hid (bel_box hb)
  obtain ⟨f0, f1, f2, f3, f4, f5⟩ := six_cells HB.out.1
  clear hb
  go_wp2
  go_ret2
  exact ⟨w1.heap.size, rfl, HB.out.2.size, ⟨_, q, s, heap_alloc_new _ _⟩, bel_trans HB.out.2 (bel_alloc _ _)⟩
end
theorem res_but {p g : Nat} {w w1 W : World} (hb : ∀ B w0, Below B w0 w1 → B ≤ g → Below B w0 W) (ho : ∀ j, j ≠ g → W.heap[j]? = w1.heap[j]?) (ht : But p w w1) (hg : w.heap.size ≤ g) : But p w W := by
  have h0 := hb g w1 (Below.refl _ _) (Nat.le_refl _)
  exact ⟨h0.os.trans ht.os, h0.tape.trans ht.tape, h0.output.trans ht.output, Nat.le_trans ht.size h0.size, fun j hj h1 => (ho j (by omega)).trans (ht.block j hj h1)⟩
section
variable (r : Nat) (k : Pr) (w : World) (h : Re w r k)
include h
set_option maxHeartbeats 2000000 in
theorem ranswer_no (x c s : Int) (v : Value) (h1 : k.st = 0 ∨ k.st = 2) : Calls Try.prog 19 #[.pointer (some ⟨r, 0, none⟩), .int .i64 x, .int .i64 c, .int .i64 s, v] w fun e w' => e = .returned (.tuple #[.agg (smp 0 0 0 0), .int .i64 (if k.st = 2 then 3 else 4)]) ∧ Below w.heap.size w w' := by
  obtain ⟨f2, f3, f4, f6, f7, f8, f9, f10, f11⟩ := (h.below (bel_alloc w (.cells (smp 0 0 0 0) 47))).facts
  clear h f2 f3 f4 f7 f8 f9 f10 f11
  obtain ⟨l, m, d, n, t, st, due, sent, clk, ck⟩ := k
  simp only at *
  rcases h1 with rfl | rfl
  all_goals
    go_enter Try.func19, Try.ntmps19
    go_wp2
    exact bodyPost_ret (results_cell2 (g := w.heap.size) (t' := 47) (cs := smp 0 0 0 0) (fr := (0, 0)) rfl _ _ _ rfl (heap_alloc_new w _) Try.underlying47 rfl info47) rfl ⟨rfl, bel_alloc _ _⟩
set_option maxRecDepth 100000 in
set_option maxHeartbeats 4000000 in
theorem ranswer_kiss (x c s : Int) (h1 : k.st = 1) (A : Option Addr) (len cap : Nat) (zs : List Int) (hz : Bytes w A len cap zs) (hy : lookW k.ck zs = 8) : Calls Try.prog 19 #[.pointer (some ⟨r, 0, none⟩), .int .i64 x, .int .i64 c, .int .i64 s, .slice A len cap] w fun e w' => e = .returned (.tuple #[.agg (smp 0 0 0 0), .int .i64 8]) ∧ Re w' r k.kiss ∧ But r w w' := by
  have K1 := Lib.hid (rlook_any A len cap zs k.ck _ (bytes_below hz (bel_alloc w (.cells (smp 0 0 0 0) 47))))
  have HB := Lib.hid h
  have hlt := h.lt
  obtain ⟨f2, f3, f4, f6, f7, f8, f9, f10, f11⟩ := (h.below (bel_alloc w (.cells (smp 0 0 0 0) 47))).facts
  rw [h1] at f6
  rw [hy] at K1
  clear h hz hy f2 f3 f4 f7 f8 f9 f10 h1
  generalize lookP k.ck zs = q at *
  go_enter Try.func19, Try.ntmps19
  go_wp2_with fail
  refine K1.out.mono ?_
  rintro e w1 ⟨rfl, hb⟩
  have HR := Lib.hid (box_old (o2 := .cells q.arr 57) hb (Below.refl _ _))
  clear hb
  have HP := Lib.hid (HB.out.below (bel_trans HR.out.2.1 (bel_alloc w1 (.cells q.arr 57))))
  have p6 : (w1.alloc (.cells q.arr 57)).frozen? ⟨r, 6, none⟩ = false := HP.out.frozen 6
  obtain ⟨g2, g3, g4, g6, g7, g8, g9, g10, g11⟩ := HP.out.facts
  have HS : Hid (Re ((w1.alloc (.cells q.arr 57)).setCell ⟨r, 6, none⟩ (.int .i64 2)) r k.kiss ∧ But r w ((w1.alloc (.cells q.arr 57)).setCell ⟨r, 6, none⟩ (.int .i64 2)) ∧ ((w1.alloc (.cells q.arr 57)).setCell ⟨r, 6, none⟩ (.int .i64 2)).heap[w.heap.size]? = some (.cells (smp 0 0 0 0) 47)) := by
    have hb : But r (w1.alloc (.cells q.arr 57)) ((w1.alloc (.cells q.arr 57)).setCell ⟨r, 6, none⟩ (.int .i64 2)) := (But.of_below (b := r) (Below.refl _ _)).setCell 6 (.int .i64 2)
    exact ⟨HP.out.setSt 2, (But.of_below (bel_trans HR.out.2.1 (bel_alloc _ _))).trans hb, (hb.block _ (heap_lt HR.out.2.2) (by omega)).trans HR.out.2.2⟩
  clear g2 g3 g4 g7 g8 g9 g10 g11
  go_wp2_with (refine wpList_store_res rfl 47 (.tmp 10) (.tmp 44) rfl w.heap.size (smp 0 0 0 0) rfl rfl 47 _ HS.out.2.2 info47 rfl (one4 _ _ _ _) ?_; intro W hW hbW hW2; have HW := Lib.hid (And.intro hW (And.intro hbW hW2)); clear hW hbW hW2)
  refine bodyPost_ret (results_cell2 (g := w.heap.size) rfl _ _ _ _ _ _ rfl HW.out.1 Try.underlying47 rfl info47) rfl ⟨rfl, ?_, ?_⟩
  · obtain ⟨v, q, s, hh⟩ := HS.out.1
    exact ⟨v, q, s, (HW.out.2.2 r (by omega)).trans hh⟩
  · exact res_but HW.out.2.1 HW.out.2.2 HS.out.2.1 (Nat.le_refl _)
set_option maxRecDepth 100000 in
set_option maxHeartbeats 4000000 in
theorem ranswer_not (x c s : Int) (h1 : k.st = 1) (A : Option Addr) (len cap : Nat) (zs : List Int) (hz : Bytes w A len cap zs) (h8 : lookW k.ck zs ≠ 8) (h0 : lookW k.ck zs ≠ 0) : Calls Try.prog 19 #[.pointer (some ⟨r, 0, none⟩), .int .i64 x, .int .i64 c, .int .i64 s, .slice A len cap] w fun e w' => e = .returned (.tuple #[.agg (smp 0 0 0 0), .int .i64 (lookW k.ck zs)]) ∧ Re w' r k ∧ But r w w' := by
  have K1 := Lib.hid (rlook_any A len cap zs k.ck _ (bytes_below hz (bel_alloc w (.cells (smp 0 0 0 0) 47))))
  have HB := Lib.hid h
  have hlt := h.lt
  obtain ⟨f2, f3, f4, f6, f7, f8, f9, f10, f11⟩ := (h.below (bel_alloc w (.cells (smp 0 0 0 0) 47))).facts
  rw [h1] at f6
  clear h hz f2 f3 f4 f7 f8 f9 f10 h1
  generalize lookW k.ck zs = y at *
  generalize lookP k.ck zs = q at *
  have g8 : (y == 8) = false := by simp [h8]
  have g0 : (y == 0) = false := by simp [h0]
  go_enter Try.func19, Try.ntmps19
  go_wp2_with fail
  refine K1.out.mono ?_
  rintro e w1 ⟨rfl, hb⟩
  have HR := Lib.hid (box_old (o2 := .cells q.arr 57) hb (Below.refl _ _))
  clear hb
  go_wp2_with (refine wpList_store_res rfl 47 (.tmp 10) (.tmp 44) rfl w.heap.size (smp 0 0 0 0) rfl rfl 47 _ HR.out.2.2 info47 rfl (one4 _ _ _ _) ?_; intro W hW hbW hW2; have HW := Lib.hid (And.intro hW (hbW _ _ (bel_trans HR.out.2.1 (bel_alloc _ _)) (Nat.le_refl _))); clear hW hbW hW2)
  exact bodyPost_ret (results_cell2 (g := w.heap.size) rfl _ _ _ _ _ _ rfl HW.out.1 Try.underlying47 rfl info47) rfl ⟨rfl, HB.out.below HW.out.2, But.of_below HW.out.2⟩
set_option maxRecDepth 100000 in
set_option maxHeartbeats 4000000 in
theorem ranswer_slow (o : k.Ok) (x c s : Int) (h1 : k.st = 1) (A : Option Addr) (len cap : Nat) (zs : List Int) (hz : Bytes w A len cap zs) (hy : lookW k.ck zs = 0) (hx : k.isLate x = true) : Calls Try.prog 19 #[.pointer (some ⟨r, 0, none⟩), .int .i64 x, .int .i64 c, .int .i64 s, .slice A len cap] w fun e w' => e = .returned (.tuple #[.agg (smp 0 0 0 0), .int .i64 12]) ∧ Re w' r k ∧ But r w w' := by
  have K1 := Lib.hid (rlook_any A len cap zs k.ck _ (bytes_below hz (bel_alloc w (.cells (smp 0 0 0 0) 47))))
  have HB := Lib.hid h
  have hlt := h.lt
  obtain ⟨f2, f3, f4, f6, f7, f8, f9, f10, f11⟩ := (h.below (bel_alloc w (.cells (smp 0 0 0 0) 47))).facts
  rw [h1] at f6
  have KL := Lib.hid (fun W (hW : Re W r k) => rislate_any r k W hW o x)
  rw [hx] at KL
  rw [hy] at K1
  clear h hz hy hx o f2 f3 f4 f7 f8 f9 f10 h1
  generalize lookP k.ck zs = q at *
  go_enter Try.func19, Try.ntmps19
  go_wp2_with fail
  refine K1.out.mono ?_
  rintro e w1 ⟨rfl, hb⟩
  have HR := Lib.hid (box_old (o2 := .cells q.arr 57) hb (Below.refl _ _))
  clear hb
  have HP := Lib.hid (HB.out.below (bel_trans HR.out.2.1 (bel_alloc w1 (.cells q.arr 57))))
  have KL1 := Lib.hid (KL.out _ HP.out)
  clear KL
  go_wp2_with fail
  refine KL1.out.mono ?_
  rintro e w2 ⟨rfl, hb2⟩
  have H2 := Lib.hid (And.intro ((hb2.block _ (heap_lt HR.out.2.2)).trans HR.out.2.2) (bel_trans HR.out.2.1 (bel_trans (bel_alloc _ _) hb2)))
  clear hb2 KL1
  go_wp2_with (refine wpList_store_res rfl 47 (.tmp 10) (.tmp 49) rfl w.heap.size (smp 0 0 0 0) rfl rfl 47 _ H2.out.1 info47 rfl (one4 _ _ _ _) ?_; intro W hW hbW hW2; have HW := Lib.hid (And.intro hW (hbW _ _ H2.out.2 (Nat.le_refl _))); clear hW hbW hW2)
  exact bodyPost_ret (results_cell2 (g := w.heap.size) rfl _ _ _ _ _ _ rfl HW.out.1 Try.underlying47 rfl info47) rfl ⟨rfl, HB.out.below HW.out.2, But.of_below HW.out.2⟩
set_option maxRecDepth 100000 in
set_option maxHeartbeats 4000000 in
theorem ranswer_good (o : k.Ok) (x c s : Int) (h1 : k.st = 1) (A : Option Addr) (len cap : Nat) (zs : List Int) (hz : Bytes w A len cap zs) (c1 : -9223372036854775808 ≤ c) (c2 : c ≤ 9223372036854775807) (hy : lookW k.ck zs = 0) (hx : k.isLate x = false) : Calls Try.prog 19 #[.pointer (some ⟨r, 0, none⟩), .int .i64 x, .int .i64 c, .int .i64 s, .slice A len cap] w fun e w' => e = .returned (.tuple #[.agg (smp (offs k.clk c (lookP k.ck zs).rc (lookP k.ck zs).xm) (tooks k.clk c (lookP k.ck zs).rc (lookP k.ck zs).xm) x s), .int .i64 0]) ∧ Re w' r k.good ∧ But r w w' := by
  have K1 := Lib.hid (rlook_any A len cap zs k.ck _ (bytes_below hz (bel_alloc w (.cells (smp 0 0 0 0) 47))))
  have HB := Lib.hid h
  have hlt := h.lt
  obtain ⟨f2, f3, f4, f6, f7, f8, f9, f10, f11⟩ := (h.below (bel_alloc w (.cells (smp 0 0 0 0) 47))).facts
  rw [h1] at f6
  have KL := Lib.hid (fun W (hW : Re W r k) => rislate_any r k W hW o x)
  have KI := Lib.hid (fun w2 (h2 : Re w2 r { k with n := k.l, t := 0 }) => ridle_any r _ w2 h2 o.s1 o.s2 (by have := o.l1; simp only; omega) (by have := o.lm; have := o.m1; simp only; omega))
  generalize lookP k.ck zs = q at *
  have KM := Lib.hid (fun w => rmake_any k.clk c q.rc q.xm w o.c1 o.c2 c1 c2)
  rw [hx] at KL
  rw [hy] at K1
  clear h hz hy hx o f2 f3 f4 f7 f8 f9 f10 h1 c1 c2
  generalize offs k.clk c q.rc q.xm = x1 at *
  generalize tooks k.clk c q.rc q.xm = x2 at *
  go_enter Try.func19, Try.ntmps19
  go_wp2_with fail
  refine K1.out.mono ?_
  rintro e w1 ⟨rfl, hb⟩
  have HR := Lib.hid (box_old (o2 := .cells q.arr 57) hb (Below.refl _ _))
  clear hb
  have HP := Lib.hid (HB.out.below (bel_trans HR.out.2.1 (bel_alloc w1 (.cells q.arr 57))))
  have KL1 := Lib.hid (KL.out _ HP.out)
  clear KL
  go_wp2_with fail
  refine KL1.out.mono ?_
  rintro e w2 ⟨rfl, hb2⟩
  have H2 := Lib.hid (And.intro (HP.out.below hb2) (And.intro ((hb2.block _ (heap_lt HR.out.2.2)).trans HR.out.2.2) (And.intro ((hb2.block w1.heap.size (by simp)).trans (heap_alloc_new w1 _)) (bel_trans HR.out.2.1 (bel_trans (bel_alloc _ _) hb2)))))
  have hs1 := HR.out.2.1.size
  clear hb2 KL1 HP HR
  obtain ⟨g2, g3, g4, g6, g7, g8, g9, g10, g11⟩ := H2.out.1.facts
  have r11 : w2.cell? ⟨w1.heap.size, 11, none⟩ = some (.int .u64 q.rc) := cell_of_row _ _ 11 _ _ _ H2.out.2.2.1
  have r12 : w2.cell? ⟨w1.heap.size, 12, none⟩ = some (.int .u64 q.xm) := cell_of_row _ _ 12 _ _ _ H2.out.2.2.1
  have e10 := fun d os => cell_regrown g10 d os
  have e11 := fun d os => cell_regrown r11 d os
  have e12 := fun d os => cell_regrown r12 d os
  have k0 : ∀ d os, Calls Try.prog 46 #[.int .i64 k.clk, .int .i64 c, .int .u64 q.rc, .int .u64 q.xm] (Sort.grow (redrawn w2 d) os) fun e w'' => e = .returned (.tuple #[.int .i64 x1, .int .i64 x2]) ∧ ∃ p : Regrown, w'' = Sort.grow (redrawn w2 p.d) p.os := fun d os => Calls.regrown_of ((KM.out _).mono (fun _ _ h => ⟨h.1, by rw [h.2]; exact Below.refl _ _⟩))
  clear g2 g3 g4 g6 g7 g8 g9 g10 g11 r11 r12
  go_wp2_with fail
  refine wp_region_quiet_below (by kernel_rfl) (by kernel_rfl) ?_
  repeat (go_big_quiet_step (with_reducible exact k0 _ _))
  refine wpQuiet_nil ?_
  intro w4 hw'
  have hb4 : Below w2.heap.size w2 w4 := by
    obtain ⟨⟨dq, osq⟩, hw''⟩ := hw'
    rw [hw'']; exact below_regrown w2 dq osq
  have H4 := Lib.hid (And.intro (H2.out.1.below hb4) (And.intro ((hb4.block _ (heap_lt H2.out.2.1)).trans H2.out.2.1) (bel_trans H2.out.2.2.2 hb4)))
  clear hw' k0 e10 e11 e12 hb4 H2
  obtain ⟨g2, g3, g4, g6, g7, g8, g9, g10, g11⟩ := H4.out.1.facts
  have p7 := H4.out.1.frozen 7
  have HS := Lib.hid (And.intro (H4.out.1.setN k.l 0) ((But.of_below (b := r) H4.out.2.2).setCell 7 (.int .i64 k.l)))
  have HS2 := Lib.hid ((((But.of_below (b := r) (Below.refl w4.heap.size w4)).setCell 7 (.int .i64 k.l)).block _ (heap_lt H4.out.2.1) (by omega)).trans H4.out.2.1)
  have KI1 := Lib.hid (KI.out _ HS.out.1)
  clear KI g3 g4 g6 g8 g9 g10 g11
  go_wp2_with fail
  refine KI1.out.mono ?_
  rintro e w5 ⟨rfl, h5, hb5⟩
  have H5 := Lib.hid (And.intro h5 (And.intro (HS.out.2.trans hb5) ((hb5.block _ (heap_lt HS2.out) (by omega)).trans HS2.out)))
  clear h5 hb5
  go_wp2_with (refine wpList_store_res rfl 47 (.tmp 10) (.tmp 77) rfl w.heap.size (smp x1 x2 x s) rfl rfl 47 _ H5.out.2.2 info47 rfl (one4 _ _ _ _) ?_; intro W hW hbW hW2; have HW := Lib.hid (And.intro hW (And.intro hbW hW2)); clear hW hbW hW2)
  refine bodyPost_ret (results_cell2 (g := w.heap.size) rfl _ _ _ _ _ _ rfl HW.out.1 Try.underlying47 rfl info47) rfl ⟨rfl, ?_, ?_⟩
  · obtain ⟨v, q, s, hh⟩ := H5.out.1
    exact ⟨v, q, s, (HW.out.2.2 r (by omega)).trans hh⟩
  · exact res_but HW.out.2.1 HW.out.2.2 H5.out.2.1 (Nat.le_refl _)
theorem ranswer_any (o : k.Ok) (x c s : Int) (c1 : -9223372036854775808 ≤ c) (c2 : c ≤ 9223372036854775807) (A : Option Addr) (len cap : Nat) (zs : List Int) (hz : Bytes w A len cap zs) : Calls Try.prog 19 #[.pointer (some ⟨r, 0, none⟩), .int .i64 x, .int .i64 c, .int .i64 s, .slice A len cap] w fun e w' => e = .returned (.tuple #[.agg (k.smp x c s zs), .int .i64 (k.ansY x zs)]) ∧ Re w' r (k.ans x zs) ∧ But r w w' := by
  unfold Pr.smp Pr.ans Pr.ansY
  by_cases h2 : k.st = 2
  · rw [if_pos h2, if_neg (by decide), if_neg (by decide), if_neg (by decide)]
    refine (ranswer_no r k w h x c s _ (.inr h2)).mono ?_
    rintro e w' ⟨rfl, hb⟩
    rw [if_pos h2]
    exact ⟨rfl, h.below hb, But.of_below hb⟩
  rw [if_neg h2]
  by_cases h0 : k.st = 0
  · rw [if_pos h0, if_neg (by decide), if_neg (by decide), if_neg (by decide)]
    refine (ranswer_no r k w h x c s _ (.inl h0)).mono ?_
    rintro e w' ⟨rfl, hb⟩
    rw [if_neg h2]
    exact ⟨rfl, h.below hb, But.of_below hb⟩
  have h1 : k.st = 1 := by have := o.st3; omega
  rw [if_neg h0]
  unfold Pr.why Pr.got
  by_cases y8 : lookW k.ck zs = 8
  · have e : ¬ (lookW k.ck zs = 0 ∧ k.isLate x = true) := fun h => by omega
    rw [if_neg e, y8, if_neg (by decide), if_pos rfl]
    exact ranswer_kiss r k w h x c s h1 A len cap zs hz y8
  by_cases y0 : lookW k.ck zs = 0
  · by_cases hx : k.isLate x = true
    · have e := And.intro y0 hx
      rw [if_pos e, if_pos e, if_neg (by decide), if_neg (by decide), if_neg (by decide)]
      exact ranswer_slow r k w h o x c s h1 A len cap zs hz y0 hx
    · have e : ¬ (lookW k.ck zs = 0 ∧ k.isLate x = true) := fun h => hx h.2
      rw [if_neg e, if_neg e, y0, if_pos rfl, if_neg (by decide), if_pos rfl]
      exact ranswer_good r k w h o x c s h1 A len cap zs hz c1 c2 y0 (by simpa using hx)
  · have e : ¬ (lookW k.ck zs = 0 ∧ k.isLate x = true) := fun h => y0 h.1
    rw [if_neg e, if_neg y0, if_neg y8, if_neg y0]
    exact ranswer_not r k w h x c s h1 A len cap zs hz y8 y0
end
end Go.Proofs.Ytfknefpfekjnnaa
