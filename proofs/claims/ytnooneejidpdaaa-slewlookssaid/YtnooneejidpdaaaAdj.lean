/- Adjust, New, and what is read of a clock, in one word each. -/
import Derived.Test.YtnooneejidpdaaaAsk
namespace Go.Proofs.Ytnooneejidpdaaa
open Go.RowKit

/-- All blocks but one are as they were. -/
structure But (b : Nat) (w w' : World) : Prop where
  os : w'.os = w.os
  tape : w'.tape = w.tape
  output : w'.output = w.output
  size : w.heap.size ≤ w'.heap.size
  block : ∀ j, j < w.heap.size → j ≠ b → w'.heap[j]? = w.heap[j]?
theorem But.of_below {b : Nat} {w w' : World} (h : Below w.heap.size w w') : But b w w' := ⟨h.os, h.tape, h.output, h.size, fun j hj _ => h.block j hj⟩
theorem But.trans {b : Nat} {u v w : World} (h : But b u v) (g : But b v w) : But b u w := ⟨g.os.trans h.os, g.tape.trans h.tape, g.output.trans h.output, Nat.le_trans h.size g.size, fun j hj hn => (g.block j (by have := h.size; omega) hn).trans (h.block j hj hn)⟩
theorem But.below {b B : Nat} {w w' : World} (h : But b w w') (h1 : B ≤ w.heap.size) (h2 : B ≤ b) : Below B w w' := ⟨h.os, h.tape, h.output, h.size, fun j hj => h.block j (by omega) (by omega)⟩
theorem But.clk {b c : Nat} {t : TypeId} {w w' : World} {k : Ck} (h : But b w w') (hc : Clk t w c k) (hn : c ≠ b) : Clk t w' c k := (h.block c hc.lt hn).trans hc
theorem But.setCell {b : Nat} {u w : World} (h : But b u w) (o : Nat) (v : Value) : But b u (w.setCell ⟨b, o, none⟩ v) :=
  ⟨h.os, h.tape, h.output, by simpa [World.setCell] using h.size, fun j hj hn => by rw [Below.heap_setCell _ _ _ _ (by exact hn)]; exact h.block j hj hn⟩
theorem heap_setCell_same (w : World) (b o : Nat) (v : Value) (cs : Array Value) (t : TypeId) (fr : Nat × Nat) (h : w.heap[b]? = some (.cells cs t fr)) : (w.setCell ⟨b, o, none⟩ v).heap[b]? = some (.cells (cs.setIfInBounds o v) t fr) := by
  simp only [World.setCell, Array.getElem?_modify, if_true]
  rw [h]
  rfl

theorem frozen_row {w : World} {b : Nat} {cs : Array Value} {t : TypeId} (hb : w.heap[b]? = some (.cells cs t (0, 0))) (j : Nat) : w.frozen? ⟨b, j, none⟩ = false := by
  simp [World.frozen?, hb]

theorem adjust_bad (y z x : Int) (p : Value) (w : World) (hz : z ≠ 0) (HA : Calls Try.prog 24 #[p, .int .i64 x] w fun e w' => e = .returned (.tuple #[.agg #[.int .i64 0, .int .i64 0, .int .i64 0, .int .i64 0], .int .i64 z]) ∧ Below w.heap.size w w') :
    Calls Try.prog 13 #[p, .int .i64 x, .int .i64 y] w fun e w' => e = .returned (.int .i64 z) ∧ Below w.heap.size w w' := by
  have KA := Lib.hid HA
  clear HA
  have hd : (z != 0) = true := by simp [hz]
  go_enter Try.func13, Try.ntmps13
  go_wp2_with fail
  refine KA.out.mono ?_
  rintro e w1 ⟨rfl, hb1⟩
  have HB := Lib.hid hb1
  clear hb1
  go_wp2
  go_ret
  exact ⟨rfl, HB.out.alloc HB.out.size _⟩

set_option maxRecDepth 100000 in
set_option maxHeartbeats 1000000 in
theorem adjust_in (b : Nat) (r h c l a x y nh nc nl na : Int) (w : World) (hc : w.heap[b]? = some (.cells #[.int .i64 r, .int .i64 h, .int .i64 c, .int .i64 l, .int .i64 a] 64 (0, 0)))
    (HA : Calls Try.prog 24 #[.pointer (some ⟨b, 0, none⟩), .int .i64 x] w fun e w' => e = .returned (.tuple #[.agg #[.int .i64 nh, .int .i64 nc, .int .i64 nl, .int .i64 na], .int .i64 0]) ∧ Below w.heap.size w w') :
    Calls Try.prog 13 #[.pointer (some ⟨b, 0, none⟩), .int .i64 x, .int .i64 y] w fun e w' => e = .returned (.int .i64 0) ∧ w'.heap[b]? = some (.cells #[.int .i64 r, .int .i64 nh, .int .i64 nc, .int .i64 (kept y (-2305843009213693952) 2305843009213693952), .int .i64 na] 64 (0, 0)) ∧ But b w w' := by
  have KA := Lib.hid HA
  have L := Lib.hid (fun w => clamp_any y (-2305843009213693952) 2305843009213693952 w)
  have hlt := (Array.getElem?_eq_some_iff.1 hc).1
  have HC := Lib.hid hc
  clear HA hc
  generalize kept y (-2305843009213693952) 2305843009213693952 = q at *
  go_enter Try.func13, Try.ntmps13
  go_wp2_with fail
  refine KA.out.mono ?_
  rintro e w1 ⟨rfl, hb1⟩
  have G := Lib.hid ((hb1.block b hlt).trans HC.out)
  have hl1 : b < w1.heap.size := Nat.lt_of_lt_of_le hlt hb1.size
  have f0 : w1.cell? ⟨b, 0, none⟩ = some (.int .i64 r) := cell_of_row _ _ 0 _ _ _ G.out
  have f1 : w1.cell? ⟨b, 1, none⟩ = some (.int .i64 h) := cell_of_row _ _ 1 _ _ _ G.out
  have f2 : w1.cell? ⟨b, 2, none⟩ = some (.int .i64 c) := cell_of_row _ _ 2 _ _ _ G.out
  have f3 : w1.cell? ⟨b, 3, none⟩ = some (.int .i64 l) := cell_of_row _ _ 3 _ _ _ G.out
  have f4 : w1.cell? ⟨b, 4, none⟩ = some (.int .i64 a) := cell_of_row _ _ 4 _ _ _ G.out
  have p1 : w1.frozen? ⟨b, 1, none⟩ = false := frozen_row G.out 1
  have p2 : w1.frozen? ⟨b, 2, none⟩ = false := frozen_row G.out 2
  have p3 : w1.frozen? ⟨b, 3, none⟩ = false := frozen_row G.out 3
  have p4 : w1.frozen? ⟨b, 4, none⟩ = false := frozen_row G.out 4
  have HB := Lib.hid hb1
  clear hb1
  go_wp2_with fail
  refine (L.out _).mono ?_
  rintro e w2 ⟨rfl, rfl⟩
  go_wp2
  go_ret
  refine ⟨rfl, ?_, ?_⟩
  · rw [Below.heap_alloc _ _ _ (by simpa [World.setCell] using hl1)]
    have q1 := heap_setCell_same w1 b 1 (.int .i64 nh) _ _ _ G.out
    have q2 := heap_setCell_same _ b 2 (.int .i64 nc) _ _ _ q1
    have q3 := heap_setCell_same _ b 3 (.int .i64 q) _ _ _ q2
    have q4 := heap_setCell_same _ b 4 (.int .i64 na) _ _ _ q3
    exact q4
  · exact ((((((But.of_below HB.out).setCell 1 _).setCell 2 _).setCell 3 _).setCell 4 _)).trans (But.of_below ((Below.refl _ _).alloc (Nat.le_refl _) _))

/-- What Read, Left, Slewed tell. -/
def rd (k : Ck) (x : Int) : Int := if k.err x = 0 then (k.now x).c else 0
def lf (k : Ck) (x : Int) : Int := if k.err x = 0 then (k.now x).l else 0
def sl (k : Ck) (x : Int) : Int := if k.err x = 0 then (k.now x).a else 0
/-- The clock behind Adjust. -/
def Ck.put (k : Ck) (x y : Int) : Ck := if k.err x = 0 then k.adj x y else k
theorem Ck.Ok.put {k : Ck} (o : k.Ok) (x y : Int) : (k.put x y).Ok := by
  unfold Ck.put
  by_cases e : k.err x = 0
  · rw [if_pos e]; exact o.adj (Ck.err_ok e).1 (Ck.err_ok e).2
  · rw [if_neg e]; exact o

section
variable (b : Nat) (k : Ck) (x : Int) (w : World) (hc : Clk 64 w b k) (o : k.Ok)
include hc o
theorem read_any : Calls Try.prog 15 #[.pointer (some ⟨b, 0, none⟩), .int .i64 x] w fun e w' => e = .returned (.tuple #[.int .i64 (rd k x), .int .i64 (k.err x)]) ∧ Below w.heap.size w w' := by
  unfold rd
  by_cases e : k.err x = 0
  · rw [if_pos e, e]; exact ask15 _ _ _ _ w (ask_ok28 _ _ _ _ _ _ _ w (at_ok b k x w hc o (Ck.err_ok e).1 (Ck.err_ok e).2) (fun w => time_any _ _ _ _ w))
  · rw [if_neg e]; exact ask15 _ _ _ _ w (ask_bad28 _ _ _ w e (at_bad b k x w hc e))
theorem left_any : Calls Try.prog 16 #[.pointer (some ⟨b, 0, none⟩), .int .i64 x] w fun e w' => e = .returned (.tuple #[.int .i64 (lf k x), .int .i64 (k.err x)]) ∧ Below w.heap.size w w' := by
  unfold lf
  by_cases e : k.err x = 0
  · rw [if_pos e, e]; exact ask16 _ _ _ _ w (ask_ok29 _ _ _ _ _ _ _ w (at_ok b k x w hc o (Ck.err_ok e).1 (Ck.err_ok e).2) (fun w => rest_any _ _ _ _ w))
  · rw [if_neg e]; exact ask16 _ _ _ _ w (ask_bad29 _ _ _ w e (at_bad b k x w hc e))
theorem slewed_any : Calls Try.prog 17 #[.pointer (some ⟨b, 0, none⟩), .int .i64 x] w fun e w' => e = .returned (.tuple #[.int .i64 (sl k x), .int .i64 (k.err x)]) ∧ Below w.heap.size w w' := by
  unfold sl
  by_cases e : k.err x = 0
  · rw [if_pos e, e]; exact ask17 _ _ _ _ w (ask_ok30 _ _ _ _ _ _ _ w (at_ok b k x w hc o (Ck.err_ok e).1 (Ck.err_ok e).2) (fun w => total_any _ _ _ _ w))
  · rw [if_neg e]; exact ask17 _ _ _ _ w (ask_bad30 _ _ _ w e (at_bad b k x w hc e))
theorem adjust_any (y : Int) : Calls Try.prog 13 #[.pointer (some ⟨b, 0, none⟩), .int .i64 x, .int .i64 y] w fun e w' => e = .returned (.int .i64 (k.err x)) ∧ Clk 64 w' b (k.put x y) ∧ But b w w' := by
  unfold Ck.put
  by_cases e : k.err x = 0
  · rw [if_pos e, e]
    exact adjust_in b k.r k.h k.c k.l k.a x y _ _ _ _ w hc (at_ok b k x w hc o (Ck.err_ok e).1 (Ck.err_ok e).2)
  · rw [if_neg e]
    refine (adjust_bad y _ x _ w e (at_bad b k x w hc e)).mono ?_
    rintro _ w' ⟨rfl, hb⟩
    exact ⟨rfl, hc.below hb, But.of_below hb⟩
end
theorem base_any (b : Nat) (k : Ck) (w : World) (hc : Clk 64 w b k) : Calls Try.prog 19 #[.pointer (some ⟨b, 0, none⟩)] w fun e w' => e = .returned (.int .i64 k.h) ∧ w = w' := base_in b k.h w hc.facts.2.1

theorem read_nil (x : Int) (w : World) : Calls Try.prog 15 #[.pointer none, .int .i64 x] w fun e w' => e = .returned (.tuple #[.int .i64 0, .int .i64 1]) ∧ Below w.heap.size w w' := ask15 _ _ _ _ w (ask_bad28 _ _ _ w (by omega) (at_nil x w))
theorem left_nil (x : Int) (w : World) : Calls Try.prog 16 #[.pointer none, .int .i64 x] w fun e w' => e = .returned (.tuple #[.int .i64 0, .int .i64 1]) ∧ Below w.heap.size w w' := ask16 _ _ _ _ w (ask_bad29 _ _ _ w (by omega) (at_nil x w))
theorem slewed_nil (x : Int) (w : World) : Calls Try.prog 17 #[.pointer none, .int .i64 x] w fun e w' => e = .returned (.tuple #[.int .i64 0, .int .i64 1]) ∧ Below w.heap.size w w' := ask17 _ _ _ _ w (ask_bad30 _ _ _ w (by omega) (at_nil x w))
theorem adjust_nil (x y : Int) (w : World) : Calls Try.prog 13 #[.pointer none, .int .i64 x, .int .i64 y] w fun e w' => e = .returned (.int .i64 1) ∧ Below w.heap.size w w' := adjust_bad y 1 x _ w (by omega) (at_nil x w)

/-- What a new clock is made of. -/
def Fit (h c p : Int) : Prop := 0 ≤ h ∧ h ≤ 4611686018427387903 ∧ -2305843009213693952 ≤ c ∧ c ≤ 2305843009213693952 ∧ 1 ≤ p ∧ p ≤ 500
theorem Fit.ok {h c p : Int} (f : Fit h c p) : (Ck.mk p h c 0 0).Ok := ok_new f.1 f.2.1 f.2.2.1 f.2.2.2.1 f.2.2.2.2.1 f.2.2.2.2.2

set_option maxHeartbeats 1000000 in
theorem new_ok (h c p : Int) (w : World) (f : Fit h c p) :
    Calls Try.prog 10 #[.int .i64 h, .int .i64 c, .int .i64 p] w fun e w' => e = .returned (.tuple #[.pointer (some ⟨w.heap.size, 0, none⟩), .int .i64 0]) ∧ Clk 64 w' w.heap.size ⟨p, h, c, 0, 0⟩ ∧ Below w.heap.size w w' := by
  obtain ⟨h1, h2, h3, h4, h5, h6⟩ := f
  go_enter Try.func10, Try.ntmps10
  go_wp2
  go_ret2
  exact ⟨rfl, heap_alloc_new w _, (Below.refl _ _).alloc (Nat.le_refl _) _⟩
set_option maxHeartbeats 1000000 in
theorem new_bad (h c p : Int) (w : World) (f : ¬ Fit h c p) :
    Calls Try.prog 10 #[.int .i64 h, .int .i64 c, .int .i64 p] w fun e w' => e = .returned (.tuple #[.pointer none, .int .i64 3]) ∧ w = w' := by
  have F := Lib.hid f
  clear f
  go_enter Try.func10, Try.ntmps10
  go_wp2
  all_goals first
    | (go_ret2; exact ⟨rfl, rfl⟩)
    | (exfalso; exact F.out (by unfold Fit; omega))
    | (rename_i hx; simp only [Bool.not_eq_eq_eq_not, Bool.not_false, decide_eq_true_eq] at hx; exfalso; exact F.out (by unfold Fit; omega))
end Go.Proofs.Ytnooneejidpdaaa
