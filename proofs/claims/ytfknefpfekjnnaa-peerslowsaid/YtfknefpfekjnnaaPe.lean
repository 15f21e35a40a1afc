/- A peer in memory and in plain numbers; the calls of package peer that tell something. -/
import Derived.Test.YtfknefpfekjnnaaDo
import Derived.Test.YtfknefpfekjnnaaCf
import Derived.Deep.Draws
import Derived.Deep.MidRow
namespace Go.Proofs.Ytfknefpfekjnnaa
open Go.RowKit

/-- A peer: the config's least, most and delay; the backoff; the state, when it is due, and the query. -/
structure Pr where
  l : Int
  m : Int
  d : Int
  n : Int
  t : Int
  st : Int
  due : Int
  sent : Int
  clk : Int
  ck : Int
structure Pr.Ok (k : Pr) : Prop where
  l1 : 4 ≤ k.l
  lm : k.l ≤ k.m
  m1 : k.m ≤ 1024
  n1 : k.l ≤ k.n
  n2 : k.n ≤ k.m
  t1 : 0 ≤ k.t
  d1 : 1 ≤ k.d
  d2 : k.d ≤ 1000 * k.l - 2000
  st3 : k.st = 0 ∨ k.st = 1 ∨ k.st = 2
  s1 : 0 ≤ k.sent
  s2 : k.sent ≤ 4611686018427387903
  u1 : 0 ≤ k.due
  u2 : k.due ≤ 4611687042427387903
  c1 : -9223372036854775808 ≤ k.clk
  c2 : k.clk ≤ 9223372036854775807
  k1 : 0 ≤ k.ck
  k2 : k.ck ≤ 18446744073709551615
def Pr.bk (k : Pr) : B := ⟨k.l, k.m, k.n, k.t⟩
theorem Pr.Ok.bk {k : Pr} (o : k.Ok) (ht : k.t ≤ 1000000000000) : k.bk.Ok := by
  obtain ⟨h1, h2, h3, h4, h5, h6⟩ := o
  constructor <;> simp only [Pr.bk] <;> omega
abbrev Pr.cells (k : Pr) (b : Nat) : Array Value := #[.pointer (some ⟨b, 0, none⟩), .int .i64 (k.d * 1000000), .int .i64 k.st, .int .i64 k.due, .int .i64 k.sent, .int .i64 k.clk, .int .u64 k.ck]
/-- The last moment at which an answer isn't late. -/
def Pr.last (k : Pr) : Int := k.sent + k.d * 1000000
def Pr.isDue (k : Pr) (h : Int) : Bool := decide (k.st = 0 ∧ k.due ≤ h)
def Pr.isLate (k : Pr) (h : Int) : Bool := decide (k.st = 1 ∧ k.last < h)
def Pr.next (k : Pr) : Int := if k.st = 0 then min k.due 4611686018427387903 else if k.st = 1 then min (k.last + 1) 4611686018427387903 else 4611686018427387903
def Pr.ask (k : Pr) (h c x : Int) : Pr := { k with st := 1, sent := h, clk := c, ck := x }
def Pr.rest (k : Pr) (s : Int) : Pr := { k with st := 0, due := k.sent + s * 1000000000 }
def Pr.fail (k : Pr) : Pr := { k with n := nx k.n k.m, t := k.t + 1, st := 0, due := k.sent + nx k.n k.m * 1000000000 }
def Pr.good (k : Pr) : Pr := { k with n := k.l, t := 0, st := 0, due := k.sent + k.l * 1000000000 }
def Pr.kiss (k : Pr) : Pr := { k with st := 2 }
def hm (h : Int) : Bool := decide (0 ≤ h ∧ h ≤ 4611686018427387903)
theorem hm_t {h : Int} (e : hm h = true) : 0 ≤ h ∧ h ≤ 4611686018427387903 := of_decide_eq_true e
theorem Pr.Ok.last {k : Pr} (o : k.Ok) : 1000000 ≤ k.last ∧ k.last ≤ 4611687042427387903 := by
  obtain ⟨h1, h2, h3, h4, h5, h6, h7, h8, h9, h10, h11⟩ := o
  unfold Pr.last; omega
theorem Pr.Ok.ask {k : Pr} (o : k.Ok) {h c x : Int} (e : hm h = true) (c1 : -9223372036854775808 ≤ c) (c2 : c ≤ 9223372036854775807) (x1 : 0 ≤ x) (x2 : x ≤ 18446744073709551615) : (k.ask h c x).Ok := by
  have := hm_t e
  obtain ⟨h1, h2, h3, h4, h5, h6, h7, h8, h9, h10, h11, h12, h13⟩ := o
  constructor <;> simp only [Pr.ask] <;> first | omega | simp
theorem Pr.Ok.fail {k : Pr} (o : k.Ok) (ht : k.t ≤ 1000000000000) : k.fail.Ok := by
  have hn := (o.bk ht).nx
  simp only [Pr.bk] at hn
  obtain ⟨h1, h2, h3, h4, h5, h6, h7, h8, h9, h10, h11, h12, h13, h14, h15, h16, h17⟩ := o
  constructor <;> simp only [Pr.fail] <;> first | omega | simp
theorem Pr.Ok.good {k : Pr} (o : k.Ok) : k.good.Ok := by
  obtain ⟨h1, h2, h3, h4, h5, h6, h7, h8, h9, h10, h11, h12, h13, h14, h15, h16, h17⟩ := o
  constructor <;> simp only [Pr.good] <;> first | omega | simp
theorem Pr.Ok.kiss {k : Pr} (o : k.Ok) : k.kiss.Ok := by
  obtain ⟨h1, h2, h3, h4, h5, h6, h7, h8, h9, h10, h11, h12, h13, h14, h15, h16, h17⟩ := o
  constructor <;> simp only [Pr.kiss] <;> first | omega | simp

/-- All blocks but two are as they were. -/
structure Two (p b : Nat) (w w' : World) : Prop where
  os : w'.os = w.os
  tape : w'.tape = w.tape
  output : w'.output = w.output
  size : w.heap.size ≤ w'.heap.size
  block : ∀ j, j < w.heap.size → j ≠ p → j ≠ b → w'.heap[j]? = w.heap[j]?
theorem Two.of_below {p b : Nat} {w w' : World} (h : Below w.heap.size w w') : Two p b w w' := ⟨h.os, h.tape, h.output, h.size, fun j hj _ _ => h.block j hj⟩
theorem Two.of_but {p b : Nat} {w w' : World} (h : But b w w') : Two p b w w' := ⟨h.os, h.tape, h.output, h.size, fun j hj _ hn => h.block j hj hn⟩
theorem Two.of_but' {p b : Nat} {w w' : World} (h : But p w w') : Two p b w w' := ⟨h.os, h.tape, h.output, h.size, fun j hj hn _ => h.block j hj hn⟩
theorem Two.trans {p b : Nat} {u v w : World} (h : Two p b u v) (g : Two p b v w) : Two p b u w := ⟨g.os.trans h.os, g.tape.trans h.tape, g.output.trans h.output, Nat.le_trans h.size g.size, fun j hj hn hb => (g.block j (by have := h.size; omega) hn hb).trans (h.block j hj hn hb)⟩
theorem Two.below {p b B : Nat} {w w' : World} (h : Two p b w w') (h1 : B ≤ w.heap.size) (h2 : B ≤ p) (h3 : B ≤ b) : Below B w w' := ⟨h.os, h.tape, h.output, h.size, fun j hj => h.block j (by omega) (by omega) (by omega)⟩
theorem But.setCells {b : Nat} {u : World} : ∀ (vs : List Value) (w : World) (o : Nat), But b u w → But b u (w.setCells b o vs)
  | [], _, _, h => h
  | v :: vs, _, o, h => But.setCells vs _ _ (h.setCell o v)
theorem heap_lt {g : Nat} {w : World} {o : Obj} (hg : w.heap[g]? = some o) : g < w.heap.size := (Array.getElem?_eq_some_iff.1 hg).1

/-- The peer k lies in block p, its backoff in block b. -/
structure Pe (w : World) (p b : Nat) (k : Pr) : Prop where
  blk : w.heap[p]? = some (.cells (k.cells b) 80 (0, 0))
  bk : Bk w b k.bk
theorem Pe.lt {w : World} {p b : Nat} {k : Pr} (h : Pe w p b k) : p < w.heap.size := heap_lt h.blk
theorem Pe.ne {w : World} {p b : Nat} {k : Pr} (h : Pe w p b k) : p ≠ b := fun e => by
  have h1 := h.blk
  have h2 := h.bk
  unfold Bk at h2
  rw [e, h2] at h1
  injection h1 with h1
  injection h1 with _ h1
  exact absurd h1 (by decide)
theorem Pe.below {w w' : World} {p b : Nat} {k : Pr} (h : Pe w p b k) (hb : Below w.heap.size w w') : Pe w' p b k := ⟨(hb.block p h.lt).trans h.blk, h.bk.below hb⟩
theorem Pe.two {w w' : World} {p b q c : Nat} {k : Pr} (h : Pe w p b k) (ht : Two q c w w') (h1 : p ≠ q) (h2 : p ≠ c) (h3 : b ≠ q) (h4 : b ≠ c) : Pe w' p b k := ⟨(ht.block p h.lt h1 h2).trans h.blk, (ht.block b h.bk.lt h3 h4).trans h.bk⟩
theorem Pe.facts {w : World} {p b : Nat} {k : Pr} (h : Pe w p b k) : w.cell? ⟨p, 0, none⟩ = some (.pointer (some ⟨b, 0, none⟩)) ∧ w.cell? ⟨p, 1, none⟩ = some (.int .i64 (k.d * 1000000)) ∧ w.cell? ⟨p, 2, none⟩ = some (.int .i64 k.st) ∧ w.cell? ⟨p, 3, none⟩ = some (.int .i64 k.due) ∧ w.cell? ⟨p, 4, none⟩ = some (.int .i64 k.sent) ∧ w.cell? ⟨p, 5, none⟩ = some (.int .i64 k.clk) ∧ w.cell? ⟨p, 6, none⟩ = some (.int .u64 k.ck) :=
  ⟨cell_of_row _ _ 0 _ _ _ h.blk, cell_of_row _ _ 1 _ _ _ h.blk, cell_of_row _ _ 2 _ _ _ h.blk, cell_of_row _ _ 3 _ _ _ h.blk, cell_of_row _ _ 4 _ _ _ h.blk, cell_of_row _ _ 5 _ _ _ h.blk, cell_of_row _ _ 6 _ _ _ h.blk⟩

theorem hm_any (h : Int) (w : World) : Calls Try.prog 30 #[.int .i64 h] w fun e w' => e = .returned (.bool (hm h)) ∧ w = w' := by
  unfold hm
  by_cases h0 : 0 ≤ h
  · have h1 : decide (0 ≤ h) = true := by simp [h0]
    go_enter Try.func30, Try.ntmps30
    go_wp2
    go_ret
    simp [h0]
  · have h1 : decide (0 ≤ h) = false := by simp [h0]
    go_enter Try.func30, Try.ntmps30
    go_wp2
    go_ret
    simp
section
variable (p b : Nat) (k : Pr) (w : World) (h : Pe w p b k)
include h
theorem state_any : Calls Try.prog 22 #[.pointer (some ⟨p, 0, none⟩)] w fun e w' => e = .returned (.int .i64 k.st) ∧ w = w' := by
  obtain ⟨f0, f1, f2, f3, f4, f5, f6⟩ := h.facts
  clear h f0 f1 f3 f4 f5 f6
  go_enter Try.func22, Try.ntmps22
  go_wp2
  go_ret
  exact ⟨rfl, rfl⟩
theorem wait_any : Calls Try.prog 23 #[.pointer (some ⟨p, 0, none⟩)] w fun e w' => e = .returned (.int .i64 k.n) ∧ w = w' := by
  have K := Lib.hid (now_any b k.bk w h.bk)
  obtain ⟨f0, f1, f2, f3, f4, f5, f6⟩ := h.facts
  clear h f1 f2 f3 f4 f5 f6
  go_enter Try.func23, Try.ntmps23
  go_wp2_with fail
  refine K.out.mono ?_
  rintro e w1 ⟨rfl, rfl⟩
  go_wp2
  go_ret
  exact ⟨rfl, rfl⟩
theorem due_any (x : Int) : Calls Try.prog 20 #[.pointer (some ⟨p, 0, none⟩), .int .i64 x] w fun e w' => e = .returned (.bool (k.isDue x)) ∧ w = w' := by
  have K := Lib.hid (state_any p b k w h)
  obtain ⟨f0, f1, f2, f3, f4, f5, f6⟩ := h.facts
  clear h f1 f2 f0 f4 f5 f6
  obtain ⟨l, m, d, n, t, st, due, sent, clk, ck⟩ := k
  simp only [Pr.isDue] at *
  by_cases hs : st = 0
  · subst hs
    go_enter Try.func20, Try.ntmps20
    go_wp2_with fail
    refine K.out.mono ?_
    rintro e w1 ⟨rfl, rfl⟩
    go_wp2
    go_ret
    simp
  · have h1 : (st == 0) = false := by simp [hs]
    go_enter Try.func20, Try.ntmps20
    go_wp2_with fail
    refine K.out.mono ?_
    rintro e w1 ⟨rfl, rfl⟩
    go_wp2
    go_ret
    simp [hs]
end
set_option maxHeartbeats 1000000 in
theorem last_any (p b : Nat) (k : Pr) (w : World) (h : Pe w p b k) (o : k.Ok) : Calls Try.prog 48 #[.pointer (some ⟨p, 0, none⟩)] w fun e w' => e = .returned (.int .i64 k.last) ∧ Below w.heap.size w w' := by
  have hl := o.last
  unfold Pr.last at hl ⊢
  obtain ⟨f0, f1, f2, f3, f4, f5, f6⟩ := h.facts
  clear h f0 f2 f3 f5 f6 o
  obtain ⟨l, m, d, n, t, st, due, sent, clk, ck⟩ := k
  simp only at *
  generalize d * 1000000 = D at *
  have hw : IntKind.i64.wrap (sent + D) = sent + D := IntWalk.i64_in _ (by omega)
  go_enter Try.func48, Try.ntmps48
  go_wp2
  go_quiet (fail)
  go_wp2
  go_ret
  exact ⟨rfl, below_draws _⟩
end Go.Proofs.Ytfknefpfekjnnaa
