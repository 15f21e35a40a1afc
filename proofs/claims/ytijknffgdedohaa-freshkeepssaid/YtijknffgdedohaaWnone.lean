/- FreshNone's walk. -/
import Derived.Test.YtijknffgdedohaaAlive
namespace Go.Proofs.Ytijknffgdedohaa
open Go.RowKit

theorem best_nil (P : Option Addr) (h life n : Int) (w : World) (h1 : -9223372036854775808 ≤ h) (h2 : h ≤ 9223372036854775807) (h3 : -9223372036854775808 ≤ n) (h4 : n ≤ 9223372036854775807) (hS : Src w P []) :
    Calls Try.prog 12 #[.pointer P, .int .i64 h, .int .i64 life, .int .i64 n] w fun e w' => e = .returned (.tuple #[.agg #[.int .i64 0, .int .i64 0, .int .i64 0, .int .i64 0], .int .i64 0, .bool false]) ∧ Below w.heap.size w w' :=
  best_any P h life n [] w h1 h2 h3 h4 (fun p hp => by cases hp) hS
/-- Three numbers in a block of their own. -/
structure Nums (w : World) (g : Nat) (a b c : Int) (W : World) : Prop where
  blk : W.heap[g]? = some (.cells #[.int .i64 a, .int .i64 b, .int .i64 c] 23 (0, 0))
  bel : Below w.heap.size w W
section
variable {w W W' : World} {g : Nat} {a b c : Int}
theorem Nums.below {B : Nat} (h : Nums w g a b c W) (hb : Below B W W') (h1 : g < B) (h2 : w.heap.size ≤ B) : Nums w g a b c W' := ⟨(hb.block g h1).trans h.blk, h.bel.trans (hb.mono h2)⟩
theorem Nums.later (h : Nums w g a b c W) (hb : Below W.heap.size W W') : Nums w g a b c W' := h.below hb (heap_lt h.blk) h.bel.size
theorem Nums.cells (h : Nums w g a b c W) : W.cell? ⟨g, 0, none⟩ = some (.int .i64 a) ∧ W.cell? ⟨g, 1, none⟩ = some (.int .i64 b) ∧ W.cell? ⟨g, 2, none⟩ = some (.int .i64 c) := by
  refine ⟨?_, ?_, ?_⟩
  all_goals (rw [cell_of_row _ _ _ _ _ _ h.blk]; rfl)
end
theorem bel_box (W : World) (O : Obj) : Below W.heap.size W (W.alloc O) := (Below.refl _ _).alloc (Nat.le_refl _) _

set_option maxRecDepth 100000 in
set_option maxHeartbeats 8000000 in
theorem walk_none (p : Sm) (a b c : Int) (w : World) (a1 : -9223372036854775808 ≤ a) (a2 : a ≤ 9223372036854775807) (c1 : -9223372036854775808 ≤ c) (c2 : c ≤ 9223372036854775807) :
    Calls Try.prog 4 #[.agg #[.int .i64 p.o, .int .i64 p.d, .int .i64 p.t, .int .i64 p.s], .agg #[.int .i64 a, .int .i64 b, .int .i64 c]] w fun e w' => e = .returned (.bool true) ∧ Below w.heap.size w w' := by
  obtain ⟨W0, hW0⟩ : ∃ W0, W0 = (w.alloc (.cells p.arr 28)).alloc (.cells #[.int .i64 a, .int .i64 b, .int .i64 c] 23) := ⟨_, rfl⟩
  have hX : W0.heap[w.heap.size]? = some (.cells p.arr 28 (0, 0)) := by
    rw [hW0]; exact (Below.heap_alloc _ _ _ (by simp)).trans (heap_alloc_new w _)
  have hN : Nums w (w.heap.size + 1) a b c W0 := ⟨by rw [hW0]; have := heap_alloc_new (w.alloc (.cells p.arr 28)) (.cells #[.int .i64 a, .int .i64 b, .int .i64 c] 23); rwa [World.size_alloc] at this, by rw [hW0]; exact ((Below.refl _ _).alloc (Nat.le_refl _) _).alloc (by simp) _⟩
  obtain ⟨k0, k1, k2⟩ := hN.cells
  have H0 := Lib.hid (And.intro hX hN)
  clear hX hN
  go_enter Try.func4, Try.ntmps4
  go_wp2_with fail
  rw [← hW0]
  clear hW0
  refine (sclear_nil W0).mono ?_
  rintro e w' ⟨rfl, rfl⟩
  go_wp2_with fail
  refine (best_nil none a b c W0 a1 a2 c1 c2 (.inl ⟨rfl, rfl⟩)).mono ?_
  rintro e w1 ⟨rfl, hb1⟩
  obtain ⟨W1, hW1⟩ : ∃ W1, W1 = w1.alloc (.cells #[.int .i64 0, .int .i64 0, .int .i64 0, .int .i64 0] 28) := ⟨_, rfl⟩
  have hB1 : Below W0.heap.size W0 W1 := by rw [hW1]; exact bel_trans hb1 (bel_box _ _)
  have gA : W1.heap[w1.heap.size]? = some (.cells Sm.zero.arr 28 (0, 0)) := by rw [hW1]; exact heap_alloc_new w1 _
  have H1 := Lib.hid (And.intro ((hB1.block _ (heap_lt H0.out.1)).trans H0.out.1) (And.intro (H0.out.2.later hB1) gA))
  clear k0 k1 k2 hb1 hB1 gA H0
  go_wp2_with fail
  rw [← hW1]
  clear hW1
  refine (snew_any W1).mono ?_
  rintro e w2 ⟨rfl, hs2, hb2, _⟩
  obtain ⟨sb, hsb⟩ : ∃ sb, sb = W1.heap.size + 1 := ⟨_, rfl⟩
  rw [← hsb] at hs2 ⊢
  have H2 := Lib.hid (And.intro ((hb2.block _ (heap_lt H1.out.1)).trans H1.out.1) (And.intro (H1.out.2.1.later hb2) (And.intro ((hb2.block _ (heap_lt H1.out.2.2)).trans H1.out.2.2) hs2)))
  have L1 := Lib.hid (And.intro (heap_lt H1.out.1) (And.intro (heap_lt H1.out.2.1.blk) H1.out.2.1.bel.size))
  clear hs2 hb2 hsb H1
  obtain ⟨⟨x0, x1, x2, x3⟩, _⟩ := cells4 H2.out.1
  go_wp2_with fail
  refine (sadd_nil p.o p.d p.t p.s w2).mono ?_
  rintro e w3 ⟨rfl, hb3⟩
  have H3 := Lib.hid (And.intro ((hb3.block _ (heap_lt H2.out.1)).trans H2.out.1) (And.intro (H2.out.2.1.later hb3) (And.intro ((hb3.block _ (heap_lt H2.out.2.2.1)).trans H2.out.2.2.1) (H2.out.2.2.2.below hb3))))
  clear x0 x1 x2 x3 hb3 H2
  obtain ⟨⟨z0, z1, z2, z3⟩, _⟩ := cells4 H3.out.2.2.1
  go_wp2_with fail
  refine (sall_nil w3).mono ?_
  rintro e w' ⟨rfl, rfl⟩
  obtain ⟨k0, k1, k2⟩ := H3.out.2.1.cells
  clear z0 z1 z2 z3
  go_wp2_with fail
  refine (best_nil (some ⟨sb, 0, none⟩) a b c w3 a1 a2 c1 c2 (.inr ⟨_, _, _, rfl, H3.out.2.2.2⟩)).mono ?_
  rintro e w4 ⟨rfl, hb4⟩
  obtain ⟨W4, hW4⟩ : ∃ W4, W4 = w4.alloc (.cells #[.int .i64 0, .int .i64 0, .int .i64 0, .int .i64 0] 28) := ⟨_, rfl⟩
  have hB4 : Below w3.heap.size w3 W4 := by rw [hW4]; exact bel_trans hb4 (bel_box _ _)
  have H4 := Lib.hid (And.intro ((hB4.block _ (heap_lt H3.out.1)).trans H3.out.1) (And.intro (H3.out.2.1.later hB4) (H3.out.2.2.2.below hB4)))
  clear k0 k1 k2 hb4 hB4 H3
  obtain ⟨⟨x0, x1, x2, x3⟩, _⟩ := cells4 H4.out.1
  rw [hW4] at x0 x1 x2 x3
  go_wp2_with fail
  rw [← hW4]
  clear hW4
  refine (sadd_any p.o p.d p.t p.s H4.out.2.2 (by omega)).mono ?_
  rintro e w5 ⟨rfl, hs5, hb5⟩
  have H5 := Lib.hid (And.intro (H4.out.2.1.below hb5 L1.out.2.1 L1.out.2.2) hs5)
  clear x0 x1 x2 x3 hs5 hb5 H4
  go_wp2_with fail
  refine (sall_any H5.out.2).mono ?_
  rintro e w6 ⟨rfl, _, _, hb6⟩
  have H6 := Lib.hid (And.intro (H5.out.1.later hb6) (H5.out.2.below hb6))
  clear hb6 H5
  go_wp2_with fail
  refine (sclear_any H6.out.2).mono ?_
  rintro e w7 ⟨rfl, hs7, hb7⟩
  have H7 := Lib.hid (And.intro (H6.out.1.below hb7 L1.out.2.1 L1.out.2.2) hs7)
  clear hs7 hb7 H6
  obtain ⟨k0, k1, k2⟩ := H7.out.1.cells
  go_wp2_with fail
  refine (best_nil (some ⟨sb, 0, none⟩) a b c w7 a1 a2 c1 c2 (.inr ⟨_, _, _, rfl, H7.out.2⟩)).mono ?_
  rintro e w8 ⟨rfl, hb8⟩
  obtain ⟨W8, hW8⟩ : ∃ W8, W8 = w8.alloc (.cells #[.int .i64 0, .int .i64 0, .int .i64 0, .int .i64 0] 28) := ⟨_, rfl⟩
  have hB8 : Below w7.heap.size w7 W8 := by rw [hW8]; exact bel_trans hb8 (bel_box _ _)
  have H8 := Lib.hid (And.intro (H7.out.1.later hB8) (H7.out.2.below hB8))
  clear k0 k1 k2 hb8 hB8 H7
  go_wp2_with fail
  rw [← hW8]
  clear hW8
  refine (alive_any W8).mono ?_
  rintro e w9 ⟨rfl, hb9⟩
  have H9 := Lib.hid (And.intro (H8.out.1.later hb9) (H8.out.2.below hb9))
  clear hb9 H8
  go_wp2_with fail
  refine (sall_any H9.out.2).mono ?_
  rintro e w10 ⟨rfl, _, _, hb10⟩
  have H10 := Lib.hid (H9.out.1.later hb10)
  clear hb10 H9
  go_wp2
  go_ret
  exact ⟨rfl, H10.out.bel⟩
end Go.Proofs.Ytijknffgdedohaa
