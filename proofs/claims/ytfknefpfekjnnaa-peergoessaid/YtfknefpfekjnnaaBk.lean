/- A backoff: a struct of four numbers behind a pointer; its calls, each in one word. -/
import Derived.Test.YtfknefpfekjnnaaStamp
import Derived.WalkKit
import Derived.WalkSpells
import Derived.Below
import Derived.StillTailTactics
import Derived.BigQuiet
import Derived.Lib.QuietBelow
import Derived.Laws.Tables
import Derived.Lib.Hide
namespace Go.Proofs.Ytfknefpfekjnnaa
open Go.RowKit

/-- All blocks but one are as they were. -/
structure But (b : Nat) (w w' : World) : Prop where
  os : w'.os = w.os
  tape : w'.tape = w.tape
  output : w'.output = w.output
  size : w.heap.size ≤ w'.heap.size
  block : ∀ j, j < w.heap.size → j ≠ b → w'.heap[j]? = w.heap[j]?
theorem But.of_below {b : Nat} {w w' : World} (h : Below w.heap.size w w') : But b w w' := ⟨h.os, h.tape, h.output, h.size, fun j hj _ => h.block j hj⟩
theorem But.trans {b : Nat} {u v w : World} (h : But b u v) (g : But b v w) : But b u w := ⟨g.os.trans h.os, g.tape.trans h.tape, g.output.trans h.output, Nat.le_trans h.size g.size, fun j hj hn => (g.block j (by have := h.size; omega) hn).trans (h.block j hj hn)⟩
theorem But.below {b B : Nat} {w w' : World} (h : But b w w') (h1 : B ≤ w.heap.size) (h2 : B ≤ b) : Below B w w' := ⟨h.os, h.tape, h.output, h.size, fun j hj => h.block j (by omega) (by omega)⟩
theorem But.setCell {b : Nat} {u w : World} (h : But b u w) (o : Nat) (v : Value) : But b u (w.setCell ⟨b, o, none⟩ v) :=
  ⟨h.os, h.tape, h.output, by simpa [World.setCell] using h.size, fun j hj hn => by rw [Below.heap_setCell _ _ _ _ (by exact hn)]; exact h.block j hj hn⟩
theorem heap_setCell_same (w : World) (b o : Nat) (v : Value) (cs : Array Value) (t : TypeId) (fr : Nat × Nat) (h : w.heap[b]? = some (.cells cs t fr)) : (w.setCell ⟨b, o, none⟩ v).heap[b]? = some (.cells (cs.setIfInBounds o v) t fr) := by
  simp only [World.setCell, Array.getElem?_modify, if_true]
  rw [h]
  rfl
theorem frozen_row {w : World} {b : Nat} {cs : Array Value} {t : TypeId} (hb : w.heap[b]? = some (.cells cs t (0, 0))) (j : Nat) : w.frozen? ⟨b, j, none⟩ = false := by
  simp [World.frozen?, hb]
theorem bel_but {b : Nat} {w wi wj : World} (h : Below w.heap.size w wi) (g : But b wi wj) (hb : w.heap.size ≤ b) : Below w.heap.size w wj := h.trans (g.below h.size hb)
/-- A backoff's numbers: least, most, how many seconds it is, and how many Fails there were. -/
structure B where
  l : Int
  m : Int
  n : Int
  t : Int
/-- The least and the greatest number may be, and what it is lies between. -/
structure B.Ok (k : B) : Prop where
  l1 : 4 ≤ k.l
  lm : k.l ≤ k.m
  m1 : k.m ≤ 1024
  n1 : k.l ≤ k.n
  n2 : k.n ≤ k.m
  t1 : 0 ≤ k.t
  t2 : k.t ≤ 1000000000000
/-- What a number of seconds becomes by a Fail. -/
def nx (a b : Int) : Int := if a < 0 ∨ 1073741824 < a ∨ b < 0 ∨ 1073741824 < b then 0 else if b < 2 * a then b else 2 * a
theorem nx_in {a b : Int} (a1 : 0 ≤ a) (a2 : a ≤ 1073741824) (b1 : 0 ≤ b) (b2 : b ≤ 1073741824) : nx a b = if b < 2 * a then b else 2 * a := by
  unfold nx; rw [if_neg (by omega)]
def B.fail (k : B) : B := ⟨k.l, k.m, nx k.n k.m, k.t + 1⟩
def B.good (k : B) : B := ⟨k.l, k.m, k.l, 0⟩
theorem B.Ok.nx {k : B} (o : k.Ok) : k.n ≤ nx k.n k.m ∧ nx k.n k.m ≤ k.m ∧ (nx k.n k.m = k.m ∨ nx k.n k.m = 2 * k.n) := by
  obtain ⟨h1, h2, h3, h4, h5, h6, h7⟩ := o
  rw [nx_in (by omega) (by omega) (by omega) (by omega)]
  split <;> omega
theorem B.Ok.good {k : B} (o : k.Ok) : k.good.Ok := by
  obtain ⟨h1, h2, h3, h4, h5, h6, h7⟩ := o
  constructor <;> simp only [B.good] <;> omega
theorem B.Ok.fail {k : B} (o : k.Ok) (h : k.t < 1000000000000) : k.fail.Ok := by
  have := o.nx
  obtain ⟨h1, h2, h3, h4, h5, h6, h7⟩ := o
  constructor <;> simp only [B.fail] <;> omega

/-- The backoff k lies in block b. -/
def Bk (w : World) (b : Nat) (k : B) : Prop := w.heap[b]? = some (.cells #[.int .i64 k.l, .int .i64 k.m, .int .i64 k.n, .int .i64 k.t] 100 (0, 0))
theorem Bk.lt {w : World} {b : Nat} {k : B} (h : Bk w b k) : b < w.heap.size := (Array.getElem?_eq_some_iff.1 h).1
theorem Bk.below {w w' : World} {b : Nat} {k : B} (h : Bk w b k) (hb : Below w.heap.size w w') : Bk w' b k := (hb.block b h.lt).trans h
theorem But.bk {b c : Nat} {w w' : World} {k : B} (h : But b w w') (hc : Bk w c k) (hn : c ≠ b) : Bk w' c k := (h.block c hc.lt hn).trans hc
theorem Bk.facts {w : World} {b : Nat} {k : B} (h : Bk w b k) : w.cell? ⟨b, 0, none⟩ = some (.int .i64 k.l) ∧ w.cell? ⟨b, 1, none⟩ = some (.int .i64 k.m) ∧ w.cell? ⟨b, 2, none⟩ = some (.int .i64 k.n) ∧ w.cell? ⟨b, 3, none⟩ = some (.int .i64 k.t) :=
  ⟨cell_of_row _ _ 0 _ _ _ h, cell_of_row _ _ 1 _ _ _ h, cell_of_row _ _ 2 _ _ _ h, cell_of_row _ _ 3 _ _ _ h⟩

/-! Next, and what New may take. -/
set_option maxHeartbeats 1000000 in
theorem next_any (a b : Int) (w : World) (a1 : -9223372036854775808 ≤ a) (a2 : a ≤ 9223372036854775807) (b1 : -9223372036854775808 ≤ b) (b2 : b ≤ 9223372036854775807) :
    Calls Try.prog 59 #[.int .i64 a, .int .i64 b] w fun e w' => e = .returned (.int .i64 (nx a b)) ∧ w = w' := by
  by_cases h1 : a < 0
  · have t1 : decide (a < 0) = true := decide_eq_true h1
    rw [show nx a b = 0 from if_pos (by omega)]
    go_enter Try.func59, Try.ntmps59
    go_wp2
    go_ret
    exact ⟨rfl, rfl⟩
  have t1 : decide (a < 0) = false := decide_eq_false h1
  by_cases h2 : 1073741824 < a
  · have t2 : decide (1073741824 < a) = true := decide_eq_true h2
    rw [show nx a b = 0 from if_pos (by omega)]
    go_enter Try.func59, Try.ntmps59
    go_wp2
    go_ret
    exact ⟨rfl, rfl⟩
  have t2 : decide (1073741824 < a) = false := decide_eq_false h2
  by_cases h3 : b < 0
  · have t3 : decide (b < 0) = true := decide_eq_true h3
    rw [show nx a b = 0 from if_pos (by omega)]
    go_enter Try.func59, Try.ntmps59
    go_wp2
    go_ret
    exact ⟨rfl, rfl⟩
  have t3 : decide (b < 0) = false := decide_eq_false h3
  by_cases h4 : 1073741824 < b
  · have t4 : decide (1073741824 < b) = true := decide_eq_true h4
    rw [show nx a b = 0 from if_pos (by omega)]
    go_enter Try.func59, Try.ntmps59
    go_wp2
    go_ret
    exact ⟨rfl, rfl⟩
  have t4 : decide (1073741824 < b) = false := decide_eq_false h4
  rw [nx_in (by omega) (by omega) (by omega) (by omega)]
  by_cases h5 : b - a < a
  · rw [if_pos (by omega)]
    go_enter Try.func59, Try.ntmps59
    go_wp2
    go_ret
    exact ⟨rfl, rfl⟩
  · rw [if_neg (by omega), show 2 * a = a + a by omega]
    go_enter Try.func59, Try.ntmps59
    go_wp2
    go_ret
    exact ⟨rfl, rfl⟩

/-- It may be an end. -/
def may (x : Int) : Bool := decide (4 ≤ x ∧ x ≤ 1024)
theorem mayBe_any (x : Int) (w : World) : Calls Try.prog 54 #[.int .i64 x] w fun e w' => e = .returned (.bool (may x)) ∧ w = w' := by
  unfold may
  by_cases h : 4 ≤ x
  · have h1 : decide (4 ≤ x) = true := by simp [h]
    go_enter Try.func54, Try.ntmps54
    go_wp2
    go_ret
    simp [h]
  · have h1 : decide (4 ≤ x) = false := by simp [h]
    go_enter Try.func54, Try.ntmps54
    go_wp2
    go_ret
    simp
/-- New's error. -/
def newE (x y : Int) : Int := if may x = false ∨ may y = false then 3 else if y < x then 8 else 0
theorem newE_ok {x y : Int} (h : newE x y = 0) : 4 ≤ x ∧ x ≤ y ∧ y ≤ 1024 := by
  unfold newE may at h
  by_cases h1 : 4 ≤ x ∧ x ≤ 1024 <;> by_cases h2 : 4 ≤ y ∧ y ≤ 1024 <;> simp [h1, h2] at h
  omega
theorem ok_new {x y : Int} (h : newE x y = 0) : (B.mk x y x 0).Ok := by
  have := newE_ok h
  constructor <;> simp only <;> omega
theorem newE_in {x y : Int} (h1 : 4 ≤ x) (h2 : x ≤ y) (h3 : y ≤ 1024) : newE x y = 0 := by
  unfold newE may
  rw [if_neg (by simp; omega), if_neg (by omega)]
set_option maxHeartbeats 1000000 in
theorem new_ok (x y : Int) (w : World) (h : newE x y = 0) :
    Calls Try.prog 31 #[.int .i64 x, .int .i64 y] w fun e w' => e = .returned (.tuple #[.pointer (some ⟨w.heap.size, 0, none⟩), .int .i64 0]) ∧ Bk w' w.heap.size ⟨x, y, x, 0⟩ ∧ Below w.heap.size w w' := by
  obtain ⟨h1, h2, h3⟩ := newE_ok h
  have M1 : may x = true := decide_eq_true ⟨h1, by omega⟩
  have M2 : may y = true := decide_eq_true ⟨by omega, h3⟩
  have K1 := Lib.hid (fun w => mayBe_any x w)
  have K2 := Lib.hid (fun w => mayBe_any y w)
  rw [M1] at K1
  rw [M2] at K2
  clear M1 M2 h
  go_enter Try.func31, Try.ntmps31
  go_wp2_with (first | (go_at_call 54; with_reducible refine (K1.out _).mono ?_; rintro e w1 ⟨rfl, rfl⟩) | (go_at_call 54; with_reducible refine (K2.out _).mono ?_; rintro e w1 ⟨rfl, rfl⟩))
  go_ret2
  exact ⟨rfl, heap_alloc_new w _, (Below.refl _ _).alloc (Nat.le_refl _) _⟩
set_option maxHeartbeats 1000000 in
theorem new_bad (x y : Int) (w : World) (h : newE x y ≠ 0) :
    Calls Try.prog 31 #[.int .i64 x, .int .i64 y] w fun e w' => e = .returned (.tuple #[.pointer none, .int .i64 (newE x y)]) ∧ w = w' := by
  have K1 := Lib.hid (fun w => mayBe_any x w)
  have K2 := Lib.hid (fun w => mayBe_any y w)
  unfold newE at h ⊢
  cases M1 : may x with
  | false =>
    rw [if_pos (Or.inl rfl)]
    rw [M1] at K1
    clear M1 h
    go_enter Try.func31, Try.ntmps31
    go_wp2_with (first | (go_at_call 54; with_reducible refine (K1.out _).mono ?_; rintro e w1 ⟨rfl, rfl⟩) | (go_at_call 54; with_reducible refine (K2.out _).mono ?_; rintro e w1 ⟨rfl, rfl⟩))
    go_ret2
    exact ⟨rfl, rfl⟩
  | true =>
    cases M2 : may y with
    | false =>
      rw [if_pos (Or.inr rfl)]
      rw [M1] at K1
      rw [M2] at K2
      clear M1 M2 h
      go_enter Try.func31, Try.ntmps31
      go_wp2_with (first | (go_at_call 54; with_reducible refine (K1.out _).mono ?_; rintro e w1 ⟨rfl, rfl⟩) | (go_at_call 54; with_reducible refine (K2.out _).mono ?_; rintro e w1 ⟨rfl, rfl⟩))
      go_ret2
      exact ⟨rfl, rfl⟩
    | true =>
      rw [M1, M2, if_neg (by simp)] at h
      rw [if_neg (by simp)]
      have hlt : y < x := by
        by_cases h5 : y < x
        · exact h5
        · rw [if_neg h5] at h; exact absurd rfl h
      rw [if_pos hlt]
      rw [M1] at K1
      rw [M2] at K2
      clear M1 M2 h
      go_enter Try.func31, Try.ntmps31
      go_wp2_with (first | (go_at_call 54; with_reducible refine (K1.out _).mono ?_; rintro e w1 ⟨rfl, rfl⟩) | (go_at_call 54; with_reducible refine (K2.out _).mono ?_; rintro e w1 ⟨rfl, rfl⟩))
      go_ret2
      exact ⟨rfl, rfl⟩

/-! What is told. -/
section
variable (b : Nat) (k : B) (w : World) (hc : Bk w b k)
include hc
theorem now_any : Calls Try.prog 47 #[.pointer (some ⟨b, 0, none⟩)] w fun e w' => e = .returned (.int .i64 k.n) ∧ w = w' := by
  obtain ⟨f0, f1, f2, f3⟩ := hc.facts
  clear hc
  go_enter Try.func47, Try.ntmps47
  go_wp2
  go_ret
  exact ⟨rfl, rfl⟩
end
theorem now_nil (w : World) : Calls Try.prog 47 #[.pointer none] w fun e w' => e = .returned (.int .i64 0) ∧ w = w' := by
  go_enter Try.func47, Try.ntmps47
  go_wp2
  go_ret
  exact ⟨rfl, rfl⟩
section
variable (g b : Nat) (k : B) (w : World) (hg : w.cell? ⟨g, 0, none⟩ = some (.pointer (some ⟨b, 0, none⟩))) (hc : Bk w b k) (o : k.Ok)
include hg hc o
set_option maxRecDepth 100000 in
set_option maxHeartbeats 2000000 in
theorem fail1_any : Calls Try.prog 58 #[.pointer (some ⟨g, 0, none⟩)] w fun e w' => e = .returned (.tuple #[.int .i64 (nx k.n k.m), .int .i64 (k.t + 1)]) ∧ Below w.heap.size w w' := by
  obtain ⟨h1, h2, h3, h4, h5, h6, h7⟩ := o
  obtain ⟨f0, f1, f2, f3⟩ := hc.facts
  have N := Lib.hid (fun w => next_any k.n k.m w (by omega) (by omega) (by omega) (by omega))
  have cg := fun d os => cell_regrown hg d os
  have c1 := fun d os => cell_regrown f1 d os
  have c2 := fun d os => cell_regrown f2 d os
  have c3 := fun d os => cell_regrown f3 d os
  generalize nx k.n k.m = u at *
  obtain ⟨l, m, n, t⟩ := k
  simp only at *
  have k0 : ∀ d os, Calls Try.prog 59 #[.int .i64 n, .int .i64 m] (Sort.grow (redrawn w d) os) fun e w'' => e = .returned (.int .i64 u) ∧ ∃ p : Regrown, w'' = Sort.grow (redrawn w p.d) p.os := fun d os => Calls.regrown_of (by first | exact N.out _ | exact (N.out _).mono (fun _ _ ⟨h1, h2⟩ => ⟨h1, by rw [h2]; exact Below.refl _ _⟩))
  clear hc f0
  go_enter Try.func58, Try.ntmps58
  go_wp2_with fail
  refine wp_region_quiet_below (by kernel_rfl) (by kernel_rfl) ?_
  repeat (go_big_quiet_step (with_reducible exact k0 _ _))
  refine wpQuiet_nil ?_
  intro w2 hw'
  have hb2 : Below w.heap.size w w2 := by
    obtain ⟨⟨dq, osq⟩, hw''⟩ := hw'
    rw [hw'']; exact below_regrown w dq osq
  clear hw' k0 cg c1 c2 c3
  go_wp2
  go_ret2
  exact ⟨rfl, hb2⟩
omit o in
theorem good1_any : Calls Try.prog 61 #[.pointer (some ⟨g, 0, none⟩)] w fun e w' => e = .returned (.tuple #[.int .i64 k.l, .int .i64 0]) ∧ w = w' := by
  obtain ⟨f0, f1, f2, f3⟩ := hc.facts
  clear hc
  go_enter Try.func61, Try.ntmps61
  go_wp2
  go_ret2
  exact ⟨rfl, rfl⟩
end
end Go.Proofs.Ytfknefpfekjnnaa
