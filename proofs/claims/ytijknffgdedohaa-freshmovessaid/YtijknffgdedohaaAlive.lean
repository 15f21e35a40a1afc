/- The document's example. -/
import Derived.Test.YtijknffgdedohaaBst
namespace Go.Proofs.Ytijknffgdedohaa
open Go.RowKit

def ex3 : List Sm := [⟨0, 7, 10, 0⟩, ⟨0, 3, 1, 0⟩, ⟨0, 5, 12, 0⟩]
theorem ex3_in : ∀ p ∈ ex3, p.In := by
  intro p hp
  simp only [ex3, List.mem_cons, List.not_mem_nil, or_false] at hp
  rcases hp with rfl | rfl | rfl <;> constructor <;> decide
theorem ex3_a : bestOf 12 20 ex3 = some ⟨0, 3, 1, 0⟩ := by kernel_rfl
theorem ex3_b : bestOf 22 20 ex3 = some ⟨0, 5, 12, 0⟩ := by kernel_rfl

set_option maxRecDepth 100000 in
set_option maxHeartbeats 4000000 in
theorem alive_any (w : World) : Calls Try.prog 10 #[] w fun e w' => e = .returned (.bool true) ∧ Below w.heap.size w w' := by
  go_enter Try.func10, Try.ntmps10
  go_wp2_with fail
  refine (snew_any w).mono ?_
  rintro e w1 ⟨rfl, hs1, hb1, hz1⟩
  obtain ⟨sb, hsb⟩ : ∃ sb, sb = w.heap.size + 1 := ⟨_, rfl⟩
  rw [← hsb] at hs1 ⊢
  have H1 := Lib.hid (And.intro hs1 hb1)
  clear hs1 hb1 hz1 hsb
  go_wp2_with fail
  have H2 : Hid (St (w1.alloc (.cells #[.int .i64 7, .int .i64 3, .int .i64 5] 2)) w.heap.size sb 0 [] ∧ (w1.alloc (.cells #[.int .i64 7, .int .i64 3, .int .i64 5] 2)).heap[w1.heap.size]? = some (.cells #[.int .i64 7, .int .i64 3, .int .i64 5] 2 (0, 0)) ∧ Below w.heap.size w (w1.alloc (.cells #[.int .i64 7, .int .i64 3, .int .i64 5] 2))) :=
    Lib.hid ⟨H1.out.1.below ((Below.refl _ _).alloc (Nat.le_refl _) _), heap_alloc_new w1 _, bel_trans H1.out.2 ((Below.refl _ _).alloc (Nat.le_refl _) _)⟩
  clear H1
  go_loopw [15] (fun v15 wr => ∃ k : Nat, k ≤ 3 ∧ v15 = .int .i64 (k : Int) ∧ Hid (St wr w.heap.size sb k (ex3.take k) ∧ wr.heap[w1.heap.size]? = some (.cells #[.int .i64 7, .int .i64 3, .int .i64 5] 2 (0, 0)) ∧ Below w.heap.size w wr)) (fun s _ => 3 - (intOf s).toNat)
  case atStart => exact ⟨0, by omega, rfl, Lib.hid H2.out⟩
  case round =>
    clear H2
    obtain ⟨k, hk, rfl, R⟩ := hrel
    by_cases hk3 : k = 3
    · subst hk3
      have BA : Hid (∀ wi, St wi w.heap.size sb 3 ex3 → Calls Try.prog 12 #[.pointer (some ⟨sb, 0, none⟩), .int .i64 12, .int .i64 20, .int .i64 0] wi fun e w' => e = .returned (.tuple #[.agg #[.int .i64 0, .int .i64 3, .int .i64 1, .int .i64 0], .int .i64 0, .bool true]) ∧ Below wi.heap.size wi w') :=
        Lib.hid fun wi hi => by
          have := best_any (some ⟨sb, 0, none⟩) 12 20 0 ex3 wi (by omega) (by omega) (by omega) (by omega) ex3_in (.inr ⟨_, _, _, rfl, hi⟩)
          rw [ex3_a] at this
          exact this
      have BB : Hid (∀ wi, St wi w.heap.size sb 3 ex3 → Calls Try.prog 12 #[.pointer (some ⟨sb, 0, none⟩), .int .i64 22, .int .i64 20, .int .i64 0] wi fun e w' => e = .returned (.tuple #[.agg #[.int .i64 0, .int .i64 5, .int .i64 12, .int .i64 0], .int .i64 0, .bool true]) ∧ Below wi.heap.size wi w') :=
        Lib.hid fun wi hi => by
          have := best_any (some ⟨sb, 0, none⟩) 22 20 0 ex3 wi (by omega) (by omega) (by omega) (by omega) ex3_in (.inr ⟨_, _, _, rfl, hi⟩)
          rw [ex3_b] at this
          exact this
      go_wp2_with fail
      refine (BA.out _ R.out.1).mono ?_
      rintro e w3 ⟨rfl, hb3⟩
      obtain ⟨W, hW⟩ : ∃ W, W = w3.alloc (.cells #[.int .i64 0, .int .i64 3, .int .i64 1, .int .i64 0] 28) := ⟨_, rfl⟩
      have hbW : Below w3.heap.size w3 W := by rw [hW]; exact (Below.refl _ _).alloc (Nat.le_refl _) _
      have gA : W.heap[w3.heap.size]? = some (.cells #[.int .i64 0, .int .i64 3, .int .i64 1, .int .i64 0] 28 (0, 0)) := by rw [hW]; exact heap_alloc_new w3 _
      have R3 := Lib.hid (And.intro ((R.out.1.below hb3).below hbW) (And.intro (bel_trans (bel_trans R.out.2.2 hb3) hbW) gA))
      clear hb3 hbW gA BA R
      go_wp2_with fail
      rw [← hW]
      clear hW
      refine (BB.out _ R3.out.1).mono ?_
      rintro e w4 ⟨rfl, hb4⟩
      have gA4 := (hb4.block _ (heap_lt R3.out.2.2)).trans R3.out.2.2
      have a1 : ∀ O, (w4.alloc O).cell? ⟨w3.heap.size, 1, none⟩ = some (.int .i64 3) := fun O => (World.cell?_alloc_lt _ _ _ (heap_lt gA4)).trans (by rw [cell_of_row _ _ _ _ _ _ gA4]; rfl)
      have R4 := Lib.hid (bel_trans R3.out.2.1 hb4)
      clear hb4 gA4 R3 BB
      go_wp2
      go_ret
      exact ⟨rfl, bel_trans R4.out ((Below.refl _ _).alloc (Nat.le_refl _) _)⟩
    · obtain rfl | rfl | rfl : k = 0 ∨ k = 1 ∨ k = 2 := by omega
      · have a0 : wr.cell? ⟨w1.heap.size, 0, none⟩ = some (.int .i64 7) := by rw [cell_of_row _ _ _ _ _ _ R.out.2.1]; rfl
        obtain ⟨W, hW⟩ : ∃ W, W = wr.alloc (.cells #[.int .i64 10, .int .i64 1, .int .i64 12] 3) := ⟨_, rfl⟩
        have hbW : Below wr.heap.size wr W := by rw [hW]; exact (Below.refl _ _).alloc (Nat.le_refl _) _
        go_wp2_with fail
        rw [← hW]
        refine (sadd_more 0 7 10 0 (R.out.1.below hbW) (by omega)).mono ?_
        rintro e w4 ⟨rfl, hs4, hb4, hsp4⟩
        have R4 := Lib.hid (And.intro hs4 (And.intro (hsp4 _ _ _ ((hbW.block _ (heap_lt R.out.2.1)).trans R.out.2.1) (by decide) (by decide)) ((bel_trans R.out.2.2 hbW).trans hb4)))
        clear hs4 hb4 hsp4 hbW hW a0
        go_wp2
        refine ⟨⟨1, by omega, by go_num, Lib.hid ⟨R4.out.1, R4.out.2⟩⟩, ?_⟩
        simp [intOf]
      · have a0 : wr.cell? ⟨w1.heap.size, 1, none⟩ = some (.int .i64 3) := by rw [cell_of_row _ _ _ _ _ _ R.out.2.1]; rfl
        obtain ⟨W, hW⟩ : ∃ W, W = wr.alloc (.cells #[.int .i64 10, .int .i64 1, .int .i64 12] 3) := ⟨_, rfl⟩
        have hbW : Below wr.heap.size wr W := by rw [hW]; exact (Below.refl _ _).alloc (Nat.le_refl _) _
        go_wp2_with fail
        rw [← hW]
        refine (sadd_more 0 3 1 0 (R.out.1.below hbW) (by omega)).mono ?_
        rintro e w4 ⟨rfl, hs4, hb4, hsp4⟩
        have R4 := Lib.hid (And.intro hs4 (And.intro (hsp4 _ _ _ ((hbW.block _ (heap_lt R.out.2.1)).trans R.out.2.1) (by decide) (by decide)) ((bel_trans R.out.2.2 hbW).trans hb4)))
        clear hs4 hb4 hsp4 hbW hW a0
        go_wp2
        refine ⟨⟨2, by omega, by go_num, Lib.hid ⟨R4.out.1, R4.out.2⟩⟩, ?_⟩
        simp [intOf]
      · have a0 : wr.cell? ⟨w1.heap.size, 2, none⟩ = some (.int .i64 5) := by rw [cell_of_row _ _ _ _ _ _ R.out.2.1]; rfl
        obtain ⟨W, hW⟩ : ∃ W, W = wr.alloc (.cells #[.int .i64 10, .int .i64 1, .int .i64 12] 3) := ⟨_, rfl⟩
        have hbW : Below wr.heap.size wr W := by rw [hW]; exact (Below.refl _ _).alloc (Nat.le_refl _) _
        go_wp2_with fail
        rw [← hW]
        refine (sadd_more 0 5 12 0 (R.out.1.below hbW) (by omega)).mono ?_
        rintro e w4 ⟨rfl, hs4, hb4, hsp4⟩
        have R4 := Lib.hid (And.intro hs4 (And.intro (hsp4 _ _ _ ((hbW.block _ (heap_lt R.out.2.1)).trans R.out.2.1) (by decide) (by decide)) ((bel_trans R.out.2.2 hbW).trans hb4)))
        clear hs4 hb4 hsp4 hbW hW a0
        go_wp2
        refine ⟨⟨3, by omega, by go_num, Lib.hid ⟨R4.out.1, R4.out.2⟩⟩, ?_⟩
        simp [intOf]
end Go.Proofs.Ytijknffgdedohaa
