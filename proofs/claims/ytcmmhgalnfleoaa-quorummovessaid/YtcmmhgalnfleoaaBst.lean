/- Best: the best one of those that are kept and fresh, and its offset now. -/
import Derived.Test.YtcmmhgalnfleoaaIt
namespace Go.Proofs.Ytcmmhgalnfleoaa
open Go.RowKit Go.Shelf
attribute [local go_sem] Oper.semAt_some

/-- What a block of cells holds speaks of cells alone. -/
theorem cells_own {β : Type} (B : Nat) (t : TypeId) (f : β → Array Value) : Own (fun s W => W.heap[B]? = some (.cells (f s) t (0, 0))) := fun s X Y row hs hg hrow => by
  have hs' : X.heap[B]? = some (.cells (f s) t (0, 0)) := hs
  refine (hg.block B (heap_lt hs') (fun e' => ?_)).trans hs'
  obtain ⟨o, ho, hc⟩ := hrow B e'.symm
  rw [hs'] at ho
  cases ho
  cases hc

abbrev Sm.arr (p : Sm) : Array Value := #[.int .i64 p.o, .int .i64 p.d, .int .i64 p.t, .int .i64 p.s]
theorem six_blocks {w W : World} {o0 o1 o2 o3 o4 o5 : Obj} (hW : W = (((((w.alloc o0).alloc o1).alloc o2).alloc o3).alloc o4).alloc o5) :
    W.heap[w.heap.size]? = some o0 ∧ W.heap[w.heap.size + 1]? = some o1 ∧ W.heap[w.heap.size + 1 + 1]? = some o2 ∧ W.heap[w.heap.size + 1 + 1 + 1]? = some o3 ∧ W.heap[w.heap.size + 1 + 1 + 1 + 1]? = some o4 ∧ W.heap[w.heap.size + 1 + 1 + 1 + 2]? = some o5 ∧
    Below w.heap.size w W ∧ W.heap.size = w.heap.size + 6 := by
  subst hW
  refine ⟨?_, ?_, ?_, ?_, ?_, ?_, ?_, ?_⟩
  · simp only [World.alloc, Array.getElem?_push, Array.size_push]; repeat (first | rw [if_pos trivial] | rw [if_pos (by omega)] | rw [if_neg (by omega)])
  · simp only [World.alloc, Array.getElem?_push, Array.size_push]; repeat (first | rw [if_pos trivial] | rw [if_pos (by omega)] | rw [if_neg (by omega)])
  · simp only [World.alloc, Array.getElem?_push, Array.size_push]; repeat (first | rw [if_pos trivial] | rw [if_pos (by omega)] | rw [if_neg (by omega)])
  · simp only [World.alloc, Array.getElem?_push, Array.size_push]; repeat (first | rw [if_pos trivial] | rw [if_pos (by omega)] | rw [if_neg (by omega)])
  · simp only [World.alloc, Array.getElem?_push, Array.size_push]; repeat (first | rw [if_pos trivial] | rw [if_pos (by omega)] | rw [if_neg (by omega)])
  · simp only [World.alloc, Array.getElem?_push, Array.size_push]; repeat (first | rw [if_pos trivial] | rw [if_pos (by omega)] | rw [if_neg (by omega)])
  · refine ⟨rfl, rfl, rfl, by simp; omega, fun k hk => ?_⟩
    simp only [World.alloc, Array.getElem?_push, Array.size_push]
    repeat (rw [if_neg (by omega)])
  · simp
theorem cells4 {W : World} {b : Nat} {p : Sm} (h : W.heap[b]? = some (.cells p.arr 31 (0, 0))) :
    (W.cell? ⟨b, 0, none⟩ = some (.int .i64 p.o) ∧ W.cell? ⟨b, 1, none⟩ = some (.int .i64 p.d) ∧ W.cell? ⟨b, 2, none⟩ = some (.int .i64 p.t) ∧ W.cell? ⟨b, 3, none⟩ = some (.int .i64 p.s)) ∧
    (W.frozen? ⟨b, 0, none⟩ = false ∧ W.frozen? ⟨b, 1, none⟩ = false ∧ W.frozen? ⟨b, 2, none⟩ = false ∧ W.frozen? ⟨b, 3, none⟩ = false) := by
  refine ⟨⟨?_, ?_, ?_, ?_⟩, frozen_row h 0, frozen_row h 1, frozen_row h 2, frozen_row h 3⟩
  all_goals (rw [cell_of_row _ _ _ _ _ _ h]; rfl)

/-- Two blocks alone were written. -/
structure Only2 (b1 b2 : Nat) (W W' : World) : Prop where
  os : W'.os = W.os
  tape : W'.tape = W.tape
  output : W'.output = W.output
  size : W'.heap.size = W.heap.size
  same : ∀ k, k ≠ b1 → k ≠ b2 → W'.heap[k]? = W.heap[k]?
  keeps : KeepsOthers W W'
theorem Only2.trans {b1 b2 : Nat} {A B C : World} (h : Only2 b1 b2 A B) (k : Only2 b1 b2 B C) : Only2 b1 b2 A C :=
  ⟨k.os.trans h.os, k.tape.trans h.tape, k.output.trans h.output, k.size.trans h.size, fun j h1 h2 => (k.same j h1 h2).trans (h.same j h1 h2), h.keeps.trans k.keeps⟩
theorem Only2.one (b1 b2 : Nat) {b : Nat} (hb : b = b1 ∨ b = b2) (W : World) (o : Nat) (v : Value) : Only2 b1 b2 W (W.setCell ⟨b, o, none⟩ v) :=
  ⟨rfl, rfl, rfl, by simp [World.setCell], fun k h1 h2 => Below.heap_setCell _ _ _ _ (by rcases hb with rfl | rfl; exact h1; exact h2), KeepsOthers.setCell _ _ _⟩
/-- A sample is stored over another one's block, and true over a bool's. -/
theorem stored5 {W W' : World} {b1 b2 : Nat} {q x : Sm} {v : Value} (i1 : W.heap[b1]? = some (.cells q.arr 31 (0, 0))) (i2 : Boxed W b2 4 v)
    (hW : W' = ((((W.setCell ⟨b1, 0, none⟩ (.int .i64 x.o)).setCell ⟨b1, 1, none⟩ (.int .i64 x.d)).setCell ⟨b1, 2, none⟩ (.int .i64 x.t)).setCell ⟨b1, 3, none⟩ (.int .i64 x.s)).setCell ⟨b2, 0, none⟩ (.bool true)) :
    W'.heap[b1]? = some (.cells x.arr 31 (0, 0)) ∧ Boxed W' b2 4 (.bool true) ∧ (∀ k, k ≠ b1 → k ≠ b2 → W'.heap[k]? = W.heap[k]?) ∧ Kp b1 b2 W W' ∧ KeepsOthers W W' ∧ (∀ (B : Nat) (w : World), B ≤ b1 → B ≤ b2 → Below B w W → Below B w W') := by
  have hne : b1 ≠ b2 := fun e => by
    subst e
    rw [show W.heap[b1]? = _ from i2] at i1
    injection i1 with i1
    injection i1 with _ i1 _
    exact absurd i1 (by decide)
  have s1 := heap_setCell_same W b1 0 (.int .i64 x.o) _ _ _ i1
  have s2 := heap_setCell_same _ b1 1 (.int .i64 x.d) _ _ _ s1
  have s3 := heap_setCell_same _ b1 2 (.int .i64 x.t) _ _ _ s2
  have s4 := heap_setCell_same _ b1 3 (.int .i64 x.s) _ _ _ s3
  have t1 := Only2.one b1 b2 (.inl rfl) W 0 (.int .i64 x.o)
  have t2 := t1.trans (Only2.one b1 b2 (.inl rfl) _ 1 (.int .i64 x.d))
  have t3 := t2.trans (Only2.one b1 b2 (.inl rfl) _ 2 (.int .i64 x.t))
  have t4 := t3.trans (Only2.one b1 b2 (.inl rfl) _ 3 (.int .i64 x.s))
  have t5 := t4.trans (Only2.one b1 b2 (.inr rfl) _ 0 (.bool true))
  rw [← hW] at t5
  refine ⟨?_, ?_, t5.same, ⟨t5.os, t5.tape, t5.output, by rw [t5.size]; exact Nat.le_refl _, fun k o hk _ h1 h2 => (t5.same k h1 h2).trans hk⟩, t5.keeps, fun B w h1 h2 hb => ⟨t5.os.trans hb.os, t5.tape.trans hb.tape, t5.output.trans hb.output, by rw [t5.size]; exact hb.size, fun k hk => (t5.same k (by omega) (by omega)).trans (hb.block k hk)⟩⟩
  · have e := Below.heap_setCell ((((W.setCell ⟨b1, 0, none⟩ (.int .i64 x.o)).setCell ⟨b1, 1, none⟩ (.int .i64 x.d)).setCell ⟨b1, 2, none⟩ (.int .i64 x.t)).setCell ⟨b1, 3, none⟩ (.int .i64 x.s)) ⟨b2, 0, none⟩ (.bool true) b1 (by exact hne)
    rw [← hW] at e
    exact e.trans s4
  · have e : Boxed ((((W.setCell ⟨b1, 0, none⟩ (.int .i64 x.o)).setCell ⟨b1, 1, none⟩ (.int .i64 x.d)).setCell ⟨b1, 2, none⟩ (.int .i64 x.t)).setCell ⟨b1, 3, none⟩ (.int .i64 x.s)) b2 4 v := ((Below.heap_setCell _ _ _ _ (by exact hne.symm)).trans ((Below.heap_setCell _ _ _ _ (by exact hne.symm)).trans ((Below.heap_setCell _ _ _ _ (by exact hne.symm)).trans (Below.heap_setCell _ _ _ _ (by exact hne.symm))))).trans i2
    have e2 := e.set (.bool true)
    rw [← hW] at e2
    exact e2

theorem then_false {K : Act → World → Prop} {Q : Exit → Act → World → Prop} : ∀ e a w, Exit.then K (fun _ _ _ => False) e a w → Exit.then K Q e a w := fun e a w h => by
  cases e with
  | normal => exact h
  | ret => exact h.elim
  | exit id => exact h.elim
  | goto t => exact h.elim
  | panic c => exact h.elim
  | outgrown => exact h.elim
theorem results_c3 {P : Program} {fn : Func} {p t u : Tmp} {ty : TypeId} (h : fn.results = #[.cell p ty, .tmp t, .tmp u]) (tmps : Array Value) (w : World) (g : Nat) (t' : TypeId) (cs : Array Value) (fr : Nat × Nat) (d : TypeDesc)
    (hp : tmps.getD p undef = .pointer (some ⟨g, 0, none⟩)) (hg : w.heap[g]? = some (.cells cs t' fr))
    (hu : P.underlying ty = some d) (hd : (match d with | .struct _ | .array _ _ => true | _ => false) = true) (hi : (P.info? ty).map (·.size) = some cs.size) :
    (results fn tmps).run P w = .ok (.tuple #[.agg cs, tmps.getD t undef, tmps.getD u undef]) w := by
  have hp' : tmps[p]?.getD undef = .pointer (some ⟨g, 0, none⟩) := by simpa using hp
  simp [results, h, hp', asAddr, run_loadVar_row w g t' ty cs fr d hg hu hd hi]
/-- At the end: a sample is stored over the result's block; the rounds' deferred calls are taken. -/
theorem best_end {w W W' : World} {R D : Nat} {q : Sm} (x : Sm) (i3 : W.heap[R]? = some (.cells q.arr 31 (0, 0))) (hB : Below w.heap.size w W) (hK : W.heap[D]? = some (.deferred (some []))) (hR : w.heap.size ≤ R) (hD : w.heap.size ≤ D)
    (hW : W' = (((W.setCell ⟨R, 0, none⟩ (.int .i64 x.o)).setCell ⟨R, 1, none⟩ (.int .i64 x.d)).setCell ⟨R, 2, none⟩ (.int .i64 x.t)).setCell ⟨R, 3, none⟩ (.int .i64 x.s)) :
    W'.heap[D]? = some (.deferred (some [])) ∧ (W'.putObj D (.deferred none)).heap[R]? = some (.cells x.arr 31 (0, 0)) ∧ Below w.heap.size w (W'.putObj D (.deferred none)) := by
  have hne : R ≠ D := fun e => by
    subst e
    rw [hK] at i3
    cases i3
  have s1 := heap_setCell_same W R 0 (.int .i64 x.o) _ _ _ i3
  have s2 := heap_setCell_same _ R 1 (.int .i64 x.d) _ _ _ s1
  have s3 := heap_setCell_same _ R 2 (.int .i64 x.t) _ _ _ s2
  have s4 := heap_setCell_same _ R 3 (.int .i64 x.s) _ _ _ s3
  have t1 := Only2.one R R (.inl rfl) W 0 (.int .i64 x.o)
  have t2 := t1.trans (Only2.one R R (.inl rfl) _ 1 (.int .i64 x.d))
  have t3 := t2.trans (Only2.one R R (.inl rfl) _ 2 (.int .i64 x.t))
  have t4 := t3.trans (Only2.one R R (.inl rfl) _ 3 (.int .i64 x.s))
  rw [← hW] at t4 s4
  have hK' := (t4.same D hne.symm hne.symm).trans hK
  refine ⟨hK', (World.putObj_heap_other hne).trans s4, ?_⟩
  have hb' : Below w.heap.size w W' := ⟨t4.os.trans hB.os, t4.tape.trans hB.tape, t4.output.trans hB.output, by rw [t4.size]; exact hB.size, fun k hk => (t4.same k (by omega) (by omega)).trans (hB.block k hk)⟩
  exact hb'.trans (belowK_b (w := w) (Nat.le_refl _) W' D _ _ hD hK' rfl rfl)

set_option maxRecDepth 100000 in
set_option maxHeartbeats 4000000 in
theorem best_any (P : Option Addr) (h life n : Int) (L : List Sm) (w : World) (hh1 : -9223372036854775808 ≤ h) (hh2 : h ≤ 9223372036854775807) (hn1 : -9223372036854775808 ≤ n) (hn2 : n ≤ 9223372036854775807) (hL : ∀ p ∈ L, p.In) (hS : Src w P L) :
    Calls Try.prog 24 #[.pointer P, .int .i64 h, .int .i64 life, .int .i64 n] w fun e w' =>
      e = .returned (.tuple #[(bestSm (bestOf h life L)).val, .int .i64 (bestNow (bestOf h life L) n), .bool (bestOf h life L).isSome]) ∧ Below w.heap.size w w' := by
  have HS := Lib.hid (And.intro hS hL)
  clear hS hL
  refine (callsIn_wide (n := 9)).1 ?_
  refine callsIn_of_wp_marks Try.func24 rfl trivial ?_ rfl
  simp only [Try.ntmps24, List.size_toArray, List.length_cons, List.length_nil, Nat.reduceAdd, Nat.reduceSub, Array.replicate_succ, Array.replicate_zero, List.push_toArray, List.append_toArray, List.nil_append, List.cons_append]
  gi_wp2_with fail
  refine ⟨trivial, callsIn_wide.2 ((freshAt_any P h life _).mono ?_)⟩
  rintro e W0 ⟨rfl, hW0⟩
  simp only [World.size_alloc]
  gi_wp2_with fail
  obtain ⟨z0, z1, z2, B0, B1, B2, hB0, hsz⟩ := six_blocks hW0
  clear hW0
  have hS0 := HS.out.1.below hB0
  have hLL := HS.out.2
  refine wpIn_rangeFunc_ownH rfl (by omega) (gf := 38) (lb := #[.pointer (some ⟨w.heap.size + 1 + 1 + 1, 0, none⟩), .pointer (some ⟨w.heap.size + 1 + 1 + 1 + 1, 0, none⟩), .pointer (some ⟨w.heap.size + 1 + 1 + 1 + 2, 0, none⟩)]) rfl trivial (enters_of Try.func38 (by kernel_rfl) rfl)
    (iter_stops _ (w.heap.size + 1) (w.heap.size + 1 + 1) (w.heap.size + 1 + 1 + 1) h life P L W0 hh1 hh2 hLL B0 B1 B2 (by omega) (by omega) hS0) (fun a b => Kp.trans a b) (fun W l o o' _ e1 e2 _ => Kp.putObj W l o o' e1 e2) (Below.refl _ _) (fun _ => rfl)
    (fun pre W => ((W.heap[w.heap.size + 1]? = some (.cells (bestSm (pre.foldl pick none)).arr 31 (0, 0)) ∧ Boxed W (w.heap.size + 1 + 1) 4 (.bool (pre.foldl pick none).isSome)) ∧ W.heap[w.heap.size]? = some (.cells Sm.zero.arr 31 (0, 0))) ∧ Below w.heap.size w W)
    (fun _ _ _ => False)
    (OwnFrom.and (OwnFrom.and (OwnFrom.and (Own.from (cells_own _ 31 (fun pre : List Sm => (bestSm (pre.foldl pick none)).arr)) _) (Own.from (boxed_own _ _ _) _)) (Own.from (cells_own _ 31 (fun _ : List Sm => Sm.zero.arr)) _)) (ownFrom_below (Nat.le_refl _) (by omega)))
    (fun _ _ _ _ _ hs _ _ => hs)
    ⟨⟨⟨z1, z2⟩, z0⟩, hB0⟩
    (fun x a' W => ∃ Bx, w.heap.size + 1 + 1 < Bx ∧ W.heap[Bx]? = some (.cells x.arr 31 (0, 0)) ∧ a' = { tmps := #[.pointer P, .int .i64 h, .int .i64 life, .int .i64 n, undef, undef, undef, undef, .pointer (some ⟨w.heap.size, 0, none⟩), .int .i64 0, .bool false, .pointer (some ⟨w.heap.size + 1, 0, none⟩), .pointer (some ⟨w.heap.size + 1 + 1, 0, none⟩), .pointer (some ⟨Bx, 0, none⟩), .pointer P, .int .i64 h, .int .i64 life, .func (.func 38) #[] #[.pointer (some ⟨w.heap.size + 1 + 1 + 1, 0, none⟩), .pointer (some ⟨w.heap.size + 1 + 1 + 1 + 1, 0, none⟩), .pointer (some ⟨w.heap.size + 1 + 1 + 1 + 2, 0, none⟩)], x.val, undef, undef, undef, undef, undef, undef, undef, undef, undef, undef, undef, undef, undef, undef, undef, undef], defers := [] })
    (fun x a' _ X Y row hs hg hr => by obtain ⟨Bx, h1, h2, h3⟩ := hs; exact ⟨Bx, h1, cells_own Bx 31 (fun (_ : Unit) => x.arr) () X Y row h2 hg (fun r e => (hr r e).2), h3⟩)
    ?assign ?body ?done ?stop
  case assign =>
    rintro l pre x W K ⟨⟨⟨i1, i2⟩, i3⟩, hB1⟩ hK
    have hlt := i2.lt
    have hBa : Below W.heap.size W (W.alloc (.cells x.arr 31)) := (Below.refl _ W).alloc (Nat.le_refl _) _
    gi_wp2
    exact hK _ _ ((KeepsOthers.alloc _ _).from _) (Kp.of_below hBa) ⟨⟨⟨(hBa.block _ (heap_lt i1)).trans i1, (hBa.block _ i2.lt).trans i2⟩, (hBa.block _ (heap_lt i3)).trans i3⟩, bel_trans hB1 hBa⟩ ⟨W.heap.size, hlt, heap_alloc_new W _, rfl⟩
  case body =>
    rintro l pre x a' W hl ⟨r, hr⟩ ⟨⟨⟨i1, i2⟩, i3⟩, hB1⟩ ⟨Bx, hBx, bX, rfl⟩ hlt
    have hst := bestOf_snoc pre x
    obtain ⟨⟨x0, x1, x2, x3⟩, _⟩ := cells4 bX
    have f2 := i2.cell
    have f3 := i2.frozen
    cases hb : pre.foldl pick none with
    | none =>
      rw [hb] at i1 i2 hst f2
      obtain ⟨⟨y0, y1, y2, y3⟩, ⟨g0, g1, g2, g3⟩⟩ := cells4 i1
      have f2 : W.cell? ⟨w.heap.size + 1 + 1, 0, none⟩ = some (.bool false) := f2
      have HH := Lib.hid (And.intro i1 (And.intro i2 (And.intro i3 (And.intro hB1 (And.intro hst (And.intro bX hr))))))
      clear i1 i2 i3 hB1 hst bX hr hb
      gi_wp2_with fail
      refine ⟨trivial, ?_⟩
      gi_wp2_with fail
      obtain ⟨k1, k2, k3, k4, k5, k6⟩ := stored5 (x := x) HH.out.1 HH.out.2.1 rfl
      refine ⟨k5.from _, k4, ⟨⟨?_, ?_⟩, ?_⟩, k6 _ _ (by omega) (by omega) HH.out.2.2.2.1⟩
      · rw [HH.out.2.2.2.2.1]; exact k1
      · rw [HH.out.2.2.2.2.1]; exact k2
      · exact (k3 _ (by omega) (by omega)).trans HH.out.2.2.1
    | some y =>
      rw [hb] at i1 i2 hst f2
      obtain ⟨⟨y0, y1, y2, y3⟩, ⟨g0, g1, g2, g3⟩⟩ := cells4 i1
      have f2 : W.cell? ⟨w.heap.size + 1 + 1, 0, none⟩ = some (.bool true) := f2
      have HH := Lib.hid (And.intro i1 (And.intro i2 (And.intro i3 (And.intro hB1 (And.intro hst (And.intro bX hr))))))
      clear i1 i2 i3 hB1 hst bX hr hb
      simp only [bestSm, Option.getD_some] at y0 y1 y2 y3
      by_cases hbt : better y x = true
      · rw [show pick (some y) x = some y by simp [pick, hbt]] at HH
        gi_wp2_with fail
        refine ⟨trivial, CallsIn.inRound l (callsIn_wide.2 ((better_any y.o y.d y.t y.s x.o x.d x.t x.s W).mono ?_))⟩
        rw [show bet y.d y.t x.d x.t = true from hbt]
        rintro e W3 ⟨rfl, hb3⟩
        have K3 := Lib.hid hb3
        clear hb3
        gi_wp2_with fail
        have hb3 := K3.out
        refine ⟨?_, Kp.of_below hb3, ⟨⟨?_, ?_⟩, ?_⟩, bel_trans HH.out.2.2.2.1 hb3⟩
        · exact (KeepsOthers.of_grownBy (grown_of_below hb3) (fun j o e => by cases e)).from _
        · rw [HH.out.2.2.2.2.1]; exact (hb3.block _ (heap_lt HH.out.1)).trans HH.out.1
        · rw [HH.out.2.2.2.2.1]; exact (hb3.block _ HH.out.2.1.lt).trans HH.out.2.1
        · exact (hb3.block _ (heap_lt HH.out.2.2.1)).trans HH.out.2.2.1
      · rw [show pick (some y) x = some x by simp [pick, hbt]] at HH
        gi_wp2_with fail
        refine ⟨trivial, CallsIn.inRound l (callsIn_wide.2 ((better_any y.o y.d y.t y.s x.o x.d x.t x.s W).mono ?_))⟩
        rw [show bet y.d y.t x.d x.t = false by simpa [better] using hbt]
        rintro e W3 ⟨rfl, hb3⟩
        have j1 := (hb3.block _ (heap_lt HH.out.1)).trans HH.out.1
        have j2 : Boxed W3 (w.heap.size + 1 + 1) 4 (.bool true) := (hb3.block _ HH.out.2.1.lt).trans HH.out.2.1
        have jX := (hb3.block _ (heap_lt HH.out.2.2.2.2.2.1)).trans HH.out.2.2.2.2.2.1
        clear x0 x1 x2 x3 y0 y1 y2 y3 g0 g1 g2 g3 f2 f3
        obtain ⟨⟨x0, x1, x2, x3⟩, _⟩ := cells4 jX
        obtain ⟨⟨y0, y1, y2, y3⟩, ⟨g0, g1, g2, g3⟩⟩ := cells4 j1
        simp only [bestSm, Option.getD_some] at y0 y1 y2 y3
        have f2 := j2.cell
        have f3 := j2.frozen
        have K3 := Lib.hid (And.intro hb3 (And.intro j1 j2))
        clear hb3 j1 j2 jX
        gi_wp2_with fail
        have hb3 := K3.out.1
        obtain ⟨k1, k2, k3, k4, k5, k6⟩ := stored5 (x := x) K3.out.2.1 K3.out.2.2 rfl
        refine ⟨((KeepsOthers.of_grownBy (grown_of_below hb3) (fun j o e => by cases e)).trans k5).from _, (Kp.of_below hb3).trans k4, ⟨⟨?_, ?_⟩, ?_⟩, k6 _ _ (by omega) (by omega) (bel_trans HH.out.2.2.2.1 hb3)⟩
        · rw [HH.out.2.2.2.2.1]; exact k1
        · rw [HH.out.2.2.2.2.1]; exact k2
        · exact (k3 _ (by omega) (by omega)).trans ((hb3.block _ (heap_lt HH.out.2.2.1)).trans HH.out.2.2.1)
  case done =>
    rintro D xs W hD rfl ⟨⟨⟨i1, i2⟩, i3⟩, hB⟩ hK
    rw [show (L.filter (isFresh h life)).foldl pick none = bestOf h life L from rfl] at i1 i2
    have f2 := i2.cell
    cases hb : bestOf h life L with
    | none =>
      rw [hb] at f2
      have f2 : W.cell? ⟨w.heap.size + 1 + 1, 0, none⟩ = some (.bool false) := f2
      obtain ⟨⟨y0, y1, y2, y3⟩, ⟨g0, g1, g2, g3⟩⟩ := cells4 i3
      have HH := Lib.hid (And.intro i3 (And.intro hB hK))
      clear i1 i2 i3 hB hK
      gi_wp2_with fail
      obtain ⟨e1, e2, e3⟩ := best_end Sm.zero HH.out.1 HH.out.2.1 HH.out.2.2 (Nat.le_refl _) (by omega) rfl
      refine ⟨by simp, .inl ⟨_, _, rfl, run_takeDeferred e1, ?_⟩⟩
      exact ⟨_, results_c3 rfl _ _ w.heap.size 31 _ (0, 0) _ rfl e2 Try.underlying31 rfl (by kernel_rfl), by rw [hb]; rfl, e3⟩
    | some y =>
      rw [hb] at i1 f2
      have f2 : W.cell? ⟨w.heap.size + 1 + 1, 0, none⟩ = some (.bool true) := f2
      have hy := hLL y (best_some hb).1
      obtain ⟨⟨x0, x1, x2, x3⟩, _⟩ := cells4 i1
      simp only [bestSm, Option.getD_some] at x0 x1 x2 x3
      obtain ⟨⟨y0, y1, y2, y3⟩, ⟨g0, g1, g2, g3⟩⟩ := cells4 i3
      have HH := Lib.hid (And.intro i1 (And.intro i3 (And.intro hB hK)))
      clear i1 i2 i3 hB hK
      gi_wp2_with fail
      have hmx : Try.prog.follows .mixedOrders = true := by kernel_rfl
      refine wpIn_mono ?_ then_false
      gi_region_with_o (refine ⟨trivial, callsIn_wide.2 ((now_any y.o y.d y.t y.s n _ hy.o1 hy.o2 hy.s1 hy.s2 hn1 hn2).mono ?_)⟩; rintro e W3 ⟨rfl, hb3⟩; have K3 := Lib.hid (And.intro hb3 (And.intro ((hb3.block _ (heap_lt HH.out.1)).trans HH.out.1) ((hb3.block _ (heap_lt HH.out.2.1)).trans HH.out.2.1))); obtain ⟨⟨u0, u1, u2, u3⟩, _⟩ := cells4 K3.out.2.1; simp only [bestSm, Option.getD_some] at u0 u1 u2 u3; obtain ⟨⟨v0, v1, v2, v3⟩, ⟨e0, e1, e2, e3⟩⟩ := cells4 K3.out.2.2; clear hb3)
      all_goals gi_wp2
      all_goals (
        have hb3 : Below W.heap.size W W3 := ⟨K3.out.1.os, K3.out.1.tape, K3.out.1.output, K3.out.1.size, K3.out.1.block⟩
        obtain ⟨q1, q2, q3⟩ := best_end y K3.out.2.2 (bel_trans HH.out.2.2.1 hb3) ((hb3.block _ (heap_lt HH.out.2.2.2)).trans HH.out.2.2.2) (Nat.le_refl _) (by omega) rfl
        refine ⟨by simp, .inl ⟨_, _, rfl, run_takeDeferred q1, ?_⟩⟩
        exact ⟨_, results_c3 rfl _ _ w.heap.size 31 _ (0, 0) _ rfl q2 Try.underlying31 rfl (by kernel_rfl), by rw [hb]; rfl, q3⟩)
  case stop =>
    rintro D c pre W _ _ h _
    exact h.elim
end Go.Proofs.Ytcmmhgalnfleoaa
