/- What a clock is at a reading: the calls of package slew by their numbers, each with what its callees answer as a premise. -/
import Derived.Test.YtnooneejidpdaaaCk
import Derived.Test.YtnooneejidpdaaaWalks
import Derived.StillTailTactics
import Derived.BigQuiet
import Derived.Laws.Tables
namespace Go.Proofs.Ytnooneejidpdaaa
open Go.RowKit

theorem still_tail {P : Program} {id : Nat} {Q : Exit → Act → World → Prop} {a : Act} {w : World} {l : List Oper} (n : Nat) (hm : P.follows .mixedOrders = true) (hB : Region.lexTailB .any l.toArray n = true)
    (h : wpStill P l.toArray w.drew (fun a' => wpList P l.toArray Q (l.drop n) a' w.drew) (l.take n) a) : (Code.region id l.toArray true).wp P Q a w :=
  wp_region_still_tail n hm hB h

/-- A store over a whole block. -/
theorem wpList_store_res {P : Program} {ops : Array Oper} {rest : List Oper} {o : Oper} {a : Act} {w : World} {Q : Exit → Act → World → Prop} (hgd : o.guard = none) (ty : TypeId) (x y : Operand) (ho : o.op = .store ty x y)
    (g : Nat) (cells : Array Value) (hx : a.eval x = .pointer (some ⟨g, 0, none⟩)) (hy : a.eval y = .agg cells)
    (t : TypeId) (old : Array Value) (hg : w.heap[g]? = some (.cells old t (0, 0))) (hi : (P.info? ty).map (·.size) = some cells.size)
    (hold : old.size = cells.size) (h1 : cells.all (·.oneCell') = true)
    (h : ∀ W : World, W.heap[g]? = some (.cells cells t (0, 0)) → (∀ B w0, Below B w0 w → B ≤ g → Below B w0 W) → (∀ j, j ≠ g → W.heap[j]? = w.heap[j]?) → wpList P ops Q rest (a.put o.dst undef) W) : wpList P ops Q (o :: rest) a w :=
  wpList_store_row hgd ty x y ho g cells hx hy t old hg hi hold h1 (h _ (setRow_heap w g old cells t _ hg) (fun B w0 hb hB => ⟨hb.os, hb.tape, hb.output, by simpa using hb.size, fun k hk => by rw [setRow_other w g k cells (by omega)]; exact hb.block k hk⟩) (fun j hj => setRow_other w g j cells hj))
theorem results_cell2 {P : Program} {fn : Func} {p t : Tmp} {ty : TypeId} (h : fn.results = #[.cell p ty, .tmp t]) (tmps : Array Value) (w : World) (g : Nat) (t' : TypeId) (cs : Array Value) (fr : Nat × Nat) (d : TypeDesc)
    (hp : tmps.getD p undef = .pointer (some ⟨g, 0, none⟩)) (hg : w.heap[g]? = some (.cells cs t' fr))
    (hu : P.underlying ty = some d) (hd : (match d with | .struct _ | .array _ _ => true | _ => false) = true) (hi : (P.info? ty).map (·.size) = some cs.size) :
    (results fn tmps).run P w = .ok (.tuple #[.agg cs, tmps.getD t undef]) w := by
  have hp' : tmps[p]?.getD undef = .pointer (some ⟨g, 0, none⟩) := by simpa using hp
  simp [results, h, hp', asAddr, run_loadVar_row w g t' ty cs fr d hg hu hd hi]
theorem results_cell1 {P : Program} {fn : Func} {p : Tmp} {ty : TypeId} (h : fn.results = #[.cell p ty]) (tmps : Array Value) (w : World) (g : Nat) (t' : TypeId) (cs : Array Value) (fr : Nat × Nat) (d : TypeDesc)
    (hp : tmps.getD p undef = .pointer (some ⟨g, 0, none⟩)) (hg : w.heap[g]? = some (.cells cs t' fr))
    (hu : P.underlying ty = some d) (hd : (match d with | .struct _ | .array _ _ => true | _ => false) = true) (hi : (P.info? ty).map (·.size) = some cs.size) :
    (results fn tmps).run P w = .ok (.agg cs) w := by
  have hp' : tmps[p]?.getD undef = .pointer (some ⟨g, 0, none⟩) := by simpa using hp
  simp [results, h, hp', asAddr, run_loadVar_row w g t' ty cs fr d hg hu hd hi]
theorem info62 : (Try.prog.info? 62).map (·.size) = some 4 := by kernel_rfl
theorem one4 (a b c d : Int) : (#[.int .i64 a, .int .i64 b, .int .i64 c, .int .i64 d] : Array Value).all (·.oneCell') = true := by simp [Value.oneCell']

/-- A call behind a new block leaves it. -/
theorem below_box {w w' : World} {o : Obj} (hb : Below (w.heap.size + 1) (w.alloc o) w') : Below w.heap.size w w' :=
  ((Below.refl _ w).alloc (Nat.le_refl _) o).trans (hb.mono (by omega))
theorem below_box2 {w w' : World} {o o2 : Obj} (hb : Below (w.heap.size + 1 + 1) ((w.alloc o).alloc o2) w') : Below w.heap.size w w' :=
  (((Below.refl _ w).alloc (Nat.le_refl _) o).alloc (by simp) o2).trans (hb.mono (by omega))
theorem box_first {w w' : World} {o o2 : Obj} (hb : Below (w.heap.size + 1 + 1) ((w.alloc o).alloc o2) w') : w'.heap[w.heap.size]? = some o := by
  rw [hb.block _ (by omega), Below.heap_alloc _ _ _ (by simp)]
  exact heap_alloc_new w _
theorem box_second {w w' : World} {o o2 : Obj} (hb : Below (w.heap.size + 1 + 1) ((w.alloc o).alloc o2) w') : w'.heap[w.heap.size + 1]? = some o2 := by
  rw [hb.block _ (by omega)]
  have := heap_alloc_new (w.alloc o) o2
  simpa using this

set_option maxRecDepth 100000 in
set_option maxHeartbeats 1000000 in
theorem after_in (h c l a d r y : Int) (w : World) (HC : ∀ w, Calls Try.prog 42 #[.int .i64 l, .int .i64 d, .int .i64 r] w fun e w' => e = .returned (.int .i64 y) ∧ Below w.heap.size w w')
    (h1 : -9223372036854775808 ≤ h + d) (h2 : h + d ≤ 9223372036854775807) (c1 : -9223372036854775808 ≤ c + d) (c2 : c + d ≤ 9223372036854775807) (c3 : -9223372036854775808 ≤ c + d + y) (c4 : c + d + y ≤ 9223372036854775807)
    (l1 : -9223372036854775808 ≤ l - y) (l2 : l - y ≤ 9223372036854775807) (a1 : -9223372036854775808 ≤ a + y) (a2 : a + y ≤ 9223372036854775807) :
    Calls Try.prog 37 #[.agg #[.int .i64 h, .int .i64 c, .int .i64 l, .int .i64 a], .int .i64 d, .int .i64 r] w fun e w' => e = .returned (.agg #[.int .i64 (h + d), .int .i64 (c + d + y), .int .i64 (l - y), .int .i64 (a + y)]) ∧ Below w.heap.size w w' := by
  have K := Lib.hid HC
  clear HC
  go_enter Try.func37, Try.ntmps37
  go_wp2_with fail
  refine (K.out _).mono ?_
  rintro e w1 ⟨rfl, hb1⟩
  have hb := Lib.hid (show Below (w.heap.size + 1 + 1) _ w1 from by simpa using hb1)
  clear hb1
  have e0 := fun j => cell_of_row _ _ j _ _ _ (box_first hb.out)
  have g1 := Lib.hid (box_second hb.out)
  have f0 : w1.cell? ⟨w.heap.size, 0, none⟩ = some (.int .i64 h) := e0 0
  have f1 : w1.cell? ⟨w.heap.size, 1, none⟩ = some (.int .i64 c) := e0 1
  have f2 : w1.cell? ⟨w.heap.size, 2, none⟩ = some (.int .i64 l) := e0 2
  have f3 : w1.cell? ⟨w.heap.size, 3, none⟩ = some (.int .i64 a) := e0 3
  clear e0
  go_wp2_with (refine wpList_store_res rfl 62 (.tmp 6) (.tmp 31) rfl (w.heap.size + 1) _ rfl rfl 62 _ g1.out info62 rfl (one4 _ _ _ _) ?_; intro W hW hbW hW2; have HW := Lib.hid (And.intro hW (hbW _ _ (below_box2 hb.out) (by omega))); clear hW hbW hW2)
  exact bodyPost_ret (results_cell1 (g := w.heap.size + 1) rfl _ _ _ _ _ _ rfl HW.out.1 Try.underlying62 rfl info62) rfl ⟨rfl, HW.out.2⟩

/-- A clock that lies in a block. -/
def Clk (t : TypeId) (w : World) (b : Nat) (k : Ck) : Prop := w.heap[b]? = some (.cells #[.int .i64 k.r, .int .i64 k.h, .int .i64 k.c, .int .i64 k.l, .int .i64 k.a] t (0, 0))
theorem Clk.lt {t : TypeId} {w : World} {b : Nat} {k : Ck} (h : Clk t w b k) : b < w.heap.size := (Array.getElem?_eq_some_iff.1 h).1
theorem Clk.below {t : TypeId} {w w' : World} {b : Nat} {k : Ck} (h : Clk t w b k) (hb : Below w.heap.size w w') : Clk t w' b k := (hb.block b h.lt).trans h
theorem Clk.facts {t : TypeId} {w : World} {b : Nat} {k : Ck} (h : Clk t w b k) : w.cell? ⟨b, 0, none⟩ = some (.int .i64 k.r) ∧ w.cell? ⟨b, 1, none⟩ = some (.int .i64 k.h) ∧ w.cell? ⟨b, 2, none⟩ = some (.int .i64 k.c) ∧ w.cell? ⟨b, 3, none⟩ = some (.int .i64 k.l) ∧ w.cell? ⟨b, 4, none⟩ = some (.int .i64 k.a) := by
  refine ⟨?_, ?_, ?_, ?_, ?_⟩
  all_goals (rw [cell_of_row _ _ _ _ _ _ h]; rfl)

/-- The numbers of what a clock is at a reading. -/
def mom (k : Ck) : Value := .agg #[.int .i64 k.h, .int .i64 k.c, .int .i64 k.l, .int .i64 k.a]

theorem at_nil (h : Int) (w : World) : Calls Try.prog 24 #[.pointer none, .int .i64 h] w fun e w' => e = .returned (.tuple #[.agg #[.int .i64 0, .int .i64 0, .int .i64 0, .int .i64 0], .int .i64 1]) ∧ Below w.heap.size w w' := by
  go_enter Try.func24, Try.ntmps24
  go_wp2
  exact bodyPost_ret (results_cell2 (g := w.heap.size) rfl _ _ _ _ _ _ rfl (heap_alloc_new w _) Try.underlying62 rfl info62) rfl ⟨rfl, (Below.refl _ _).alloc (Nat.le_refl _) _⟩
theorem at_far (b : Nat) (h : Int) (w : World) (hh : 4611686018427387903 < h) : Calls Try.prog 24 #[.pointer (some ⟨b, 0, none⟩), .int .i64 h] w fun e w' => e = .returned (.tuple #[.agg #[.int .i64 0, .int .i64 0, .int .i64 0, .int .i64 0], .int .i64 3]) ∧ Below w.heap.size w w' := by
  go_enter Try.func24, Try.ntmps24
  go_wp2
  exact bodyPost_ret (results_cell2 (g := w.heap.size) rfl _ _ _ _ _ _ rfl (heap_alloc_new w _) Try.underlying62 rfl info62) rfl ⟨rfl, (Below.refl _ _).alloc (Nat.le_refl _) _⟩
theorem at_early (b : Nat) (k : Ck) (h : Int) (w : World) (hc : Clk 64 w b k) (h1 : h ≤ 4611686018427387903) (h2 : h < k.h) : Calls Try.prog 24 #[.pointer (some ⟨b, 0, none⟩), .int .i64 h] w fun e w' => e = .returned (.tuple #[.agg #[.int .i64 0, .int .i64 0, .int .i64 0, .int .i64 0], .int .i64 8]) ∧ Below w.heap.size w w' := by
  obtain ⟨f0, f1, f2, f3, f4⟩ := hc.facts
  have hlt := hc.lt
  clear hc f0 f2 f3 f4
  obtain ⟨kh, hkh⟩ : ∃ x, x = k.h := ⟨_, rfl⟩
  rw [← hkh] at h2 f1
  clear hkh
  have d : decide (h < kh) = true := decide_eq_true h2
  go_enter Try.func24, Try.ntmps24
  go_wp2
  exact bodyPost_ret (results_cell2 (g := w.heap.size) rfl _ _ _ _ _ _ rfl (heap_alloc_new w _) Try.underlying62 rfl info62) rfl ⟨rfl, (Below.refl _ _).alloc (Nat.le_refl _) _⟩

set_option maxRecDepth 100000 in
set_option maxHeartbeats 1000000 in
theorem at_in (b : Nat) (r h c l a x nh nc nl na : Int) (w : World) (hlt : b < w.heap.size) (f0 : w.cell? ⟨b, 0, none⟩ = some (.int .i64 r)) (f1 : w.cell? ⟨b, 1, none⟩ = some (.int .i64 h)) (f2 : w.cell? ⟨b, 2, none⟩ = some (.int .i64 c)) (f3 : w.cell? ⟨b, 3, none⟩ = some (.int .i64 l)) (f4 : w.cell? ⟨b, 4, none⟩ = some (.int .i64 a))
    (h0 : 0 ≤ h) (h1 : h ≤ x) (h2 : x ≤ 4611686018427387903)
    (HA : ∀ w, Calls Try.prog 37 #[.agg #[.int .i64 h, .int .i64 c, .int .i64 l, .int .i64 a], .int .i64 (x - h), .int .i64 r] w fun e w' => e = .returned (.agg #[.int .i64 nh, .int .i64 nc, .int .i64 nl, .int .i64 na]) ∧ Below w.heap.size w w') :
    Calls Try.prog 24 #[.pointer (some ⟨b, 0, none⟩), .int .i64 x] w fun e w' => e = .returned (.tuple #[.agg #[.int .i64 nh, .int .i64 nc, .int .i64 nl, .int .i64 na], .int .i64 0]) ∧ Below w.heap.size w w' := by
  have K := Lib.hid HA
  clear HA
  have d : decide (x < h) = false := decide_eq_false (by omega)
  go_enter Try.func24, Try.ntmps24
  go_wp2
  obtain ⟨W, hW⟩ : ∃ W, W = w.alloc (.cells #[.int .i64 0, .int .i64 0, .int .i64 0, .int .i64 0] 62) := ⟨_, rfl⟩
  rw [← hW]
  have g0 : W.cell? ⟨b, 0, none⟩ = some (.int .i64 r) := by rw [hW, World.cell?_alloc_lt _ _ _ hlt]; exact f0
  have g1 : W.cell? ⟨b, 1, none⟩ = some (.int .i64 h) := by rw [hW, World.cell?_alloc_lt _ _ _ hlt]; exact f1
  have g2 : W.cell? ⟨b, 2, none⟩ = some (.int .i64 c) := by rw [hW, World.cell?_alloc_lt _ _ _ hlt]; exact f2
  have g3 : W.cell? ⟨b, 3, none⟩ = some (.int .i64 l) := by rw [hW, World.cell?_alloc_lt _ _ _ hlt]; exact f3
  have g4 : W.cell? ⟨b, 4, none⟩ = some (.int .i64 a) := by rw [hW, World.cell?_alloc_lt _ _ _ hlt]; exact f4
  have HW := Lib.hid hW
  clear hW f0 f1 f2 f3 f4
  refine still_tail 15 (by kernel_rfl) (by kernel_rfl) ?_
  simp only [List.take_succ_cons, List.take_zero, List.drop_succ_cons, List.drop_zero]
  repeat still_step
  refine wpStill_nil ?_
  have hres : W.heap[w.heap.size]? = some (.cells #[.int .i64 0, .int .i64 0, .int .i64 0, .int .i64 0] 62) := by rw [HW.out]; exact heap_alloc_new w _
  have hsz : W.heap.size = w.heap.size + 1 := by rw [HW.out]; simp
  have hbW : Below w.heap.size w W := by rw [HW.out]; exact (Below.refl _ _).alloc (Nat.le_refl _) _
  have HB := Lib.hid (And.intro hres (And.intro hsz hbW))
  clear hres hsz hbW HW
  go_wp2_with fail
  refine (K.out _).mono ?_
  rintro e w1 ⟨rfl, hb1⟩
  have hb2 : Below W.heap.size W w1 := ⟨hb1.os, hb1.tape, hb1.output, hb1.size, hb1.block⟩
  have G1 := Lib.hid ((hb2.block w.heap.size (by have := HB.out.2.1; omega)).trans HB.out.1)
  have G2 := Lib.hid (HB.out.2.2.trans (hb2.mono (B' := w.heap.size) (by have := HB.out.2.1; omega)))
  clear hb1 hb2 g0 g1 g2 g3 g4
  go_wp2_with (refine wpList_store_res rfl 62 (.tmp 4) (.tmp 35) rfl w.heap.size _ rfl rfl 62 _ G1.out info62 rfl (one4 _ _ _ _) ?_; intro V hV hbV hV2; have HV := Lib.hid (And.intro hV (hbV _ _ G2.out (Nat.le_refl _))); clear hV hbV hV2)
  exact bodyPost_ret (results_cell2 (g := w.heap.size) rfl _ _ _ _ _ _ rfl HV.out.1 Try.underlying62 rfl info62) rfl ⟨rfl, HV.out.2⟩

theorem time_any (a b c d : Int) (w : World) : Calls Try.prog 28 #[.agg #[.int .i64 a, .int .i64 b, .int .i64 c, .int .i64 d]] w fun e w' => e = .returned (.int .i64 b) ∧ Below w.heap.size w w' := by
  go_enter Try.func28, Try.ntmps28
  go_wp2
  go_ret
  exact ⟨rfl, (Below.refl _ _).alloc (Nat.le_refl _) _⟩
theorem rest_any (a b c d : Int) (w : World) : Calls Try.prog 29 #[.agg #[.int .i64 a, .int .i64 b, .int .i64 c, .int .i64 d]] w fun e w' => e = .returned (.int .i64 c) ∧ Below w.heap.size w w' := by
  go_enter Try.func29, Try.ntmps29
  go_wp2
  go_ret
  exact ⟨rfl, (Below.refl _ _).alloc (Nat.le_refl _) _⟩
theorem total_any (a b c d : Int) (w : World) : Calls Try.prog 30 #[.agg #[.int .i64 a, .int .i64 b, .int .i64 c, .int .i64 d]] w fun e w' => e = .returned (.int .i64 d) ∧ Below w.heap.size w w' := by
  go_enter Try.func30, Try.ntmps30
  go_wp2
  go_ret
  exact ⟨rfl, (Below.refl _ _).alloc (Nat.le_refl _) _⟩

theorem base_nil (w : World) : Calls Try.prog 19 #[.pointer none] w fun e w' => e = .returned (.int .i64 0) ∧ w = w' := by
  go_enter Try.func19, Try.ntmps19
  go_wp2
  go_ret
  exact ⟨rfl, rfl⟩
theorem base_in (b : Nat) (h : Int) (w : World) (f1 : w.cell? ⟨b, 1, none⟩ = some (.int .i64 h)) : Calls Try.prog 19 #[.pointer (some ⟨b, 0, none⟩)] w fun e w' => e = .returned (.int .i64 h) ∧ w = w' := by
  go_enter Try.func19, Try.ntmps19
  go_wp2
  go_ret
  exact ⟨rfl, rfl⟩
end Go.Proofs.Ytnooneejidpdaaa
