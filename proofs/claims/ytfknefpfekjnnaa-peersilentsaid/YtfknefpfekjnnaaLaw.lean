/- What the laws' walks share. -/
import Derived.Test.YtfknefpfekjnnaaAlive
import Derived.Test.YtfknefpfekjnnaaArgs
namespace Go.Proofs.Ytfknefpfekjnnaa
open Go.RowKit

theorem Sp.cell {w wi : World} {p b : Nat} {k : Pr} (s : Sp w wi p b k) {a : Addr} {v : Value} (h : w.cell? a = some v) : wi.cell? a = some v := (s.bel.cell (cell_lt h)).trans h
theorem below_cell {w wi : World} (s : Below w.heap.size w wi) {a : Addr} {v : Value} (h : w.cell? a = some v) : wi.cell? a = some v := (s.cell (cell_lt h)).trans h
theorem regrown_cell {w : World} {a : Addr} {v : Value} (h : w.cell? a = some v) (d : Nat) (os : Array Obj) : (Sort.grow (redrawn w d) os).cell? a = some v := cell_regrown h d os
/-- A config in a block. -/
def Cb (w : World) (g : Nat) (v : Value) (c : Cfg) : Prop := w.heap[g]? = some (.cells #[v, .int .i64 c.q, .int .i64 c.l, .int .i64 c.m, .int .i64 c.d, .int .i64 c.s] 24 (0, 0))
theorem Cb.below {w wi : World} {g : Nat} {v : Value} {c : Cfg} (h : Cb w g v c) (s : Below w.heap.size w wi) : Cb wi g v c := (s.block g (heap_lt h)).trans h
theorem Cb.cells {w : World} {g : Nat} {v : Value} {c : Cfg} (h : Cb w g v c) : w.cell? ⟨g, 0, none⟩ = some v ∧ w.cell? ⟨g, 1, none⟩ = some (.int .i64 c.q) ∧ w.cell? ⟨g, 2, none⟩ = some (.int .i64 c.l) ∧ w.cell? ⟨g, 3, none⟩ = some (.int .i64 c.m) ∧ w.cell? ⟨g, 4, none⟩ = some (.int .i64 c.d) ∧ w.cell? ⟨g, 5, none⟩ = some (.int .i64 c.s) := six_cells h
theorem Sp.cb {w wi : World} {p b : Nat} {k : Pr} {g : Nat} {v : Value} {c : Cfg} (s : Sp w wi p b k) (h : Cb w g v c) : Cb wi g v c := h.below s.bel
theorem Sp.start {w w2 : World} {p b : Nat} {k : Pr} (hb : Below w.heap.size w w2) (hp : w.heap.size ≤ p) (hq : w.heap.size ≤ b) (h : Pe w2 p b k) : Sp w w2 p b k := ⟨h, hb, hp, hq⟩
theorem nums_of {c : Cfg} (e : checkOf c = 0) : (4 ≤ c.l ∧ c.l ≤ 1024) ∧ (c.l ≤ c.m ∧ c.m ≤ 1024) ∧ (1 ≤ c.d ∧ c.d ≤ 1000 * c.l - 2000) ∧ c.S.length ≤ 16 := by
  obtain ⟨h0, ⟨_, _⟩, h1, h2, h3, _⟩ := check_nums e
  exact ⟨h1, h2, h3, h0⟩
end Go.Proofs.Ytfknefpfekjnnaa
