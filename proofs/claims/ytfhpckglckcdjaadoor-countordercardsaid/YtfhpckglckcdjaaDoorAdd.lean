/- Add and Refused. -/
import Derived.Test.YtfhpckglckcdjaaDoorCn
import Derived.Deep.RegionHeld3
namespace Go.Proofs.YtfhpckglckcdjaaDoor
open Go.RowKit Go.Proofs.Lx

/-- A region's reads and quiet calls ahead of its end, the world behind the draw a letter. -/
theorem still_tail_any {P : Program} {id : Nat} {Q : Exit → Act → World → Prop} {a : Act} {w : World} {l : List Oper} (n : Nat) (hm : P.follows .mixedOrders = true) (hB : Region.lexTailB .any l.toArray n = true)
    (h : ∀ W : World, W = w.drew → wpStill P l.toArray W (fun a' => wpList P l.toArray Q (l.drop n) a' W) (l.take n) a) : (Code.region id l.toArray true).wp P Q a w :=
  wp_region_still_tail n hm hB (h _ rfl)
theorem add_nil (z : Int) (w : World) : Calls Tryd.prog 9 #[.pointer none, .int .i64 z] w fun e w' => e = .returned (.int .i64 1) ∧ w = w' := by
  go_enter Tryd.func9, Tryd.ntmps9
  go_wp2
  go_ret
  exact ⟨rfl, rfl⟩
theorem add_out (b : Nat) (z : Int) (w : World) (hz : ¬ (0 ≤ z ∧ z < 13)) : Calls Tryd.prog 9 #[.pointer (some ⟨b, 0, none⟩), .int .i64 z] w fun e w' => e = .returned (.int .i64 10) ∧ w = w' := by
  have K := isReason_any z
  rw [decide_eq_false hz] at K
  go_enter Tryd.func9, Tryd.ntmps9
  go_wp2_with fail
  refine (K _).mono ?_
  rintro e w1 ⟨rfl, rfl⟩
  go_wp2
  go_ret
  exact ⟨rfl, rfl⟩
theorem wrap_id {n : Nat} (h : n ≤ 1000000000000) : IntKind.i64.wrap ((n : Int) + 1) = ((n + 1 : Nat) : Int) := by
  rw [IntKind.wrap_i64]; omega
theorem add_in (b i : Nat) (N : List Nat) (w : World) (hi : i < 13) (hN : Fit N) (h : Cn w b N) : Calls Tryd.prog 9 #[.pointer (some ⟨b, 0, none⟩), .int .i64 i] w fun e w' => e = .returned (.int .i64 0) ∧ Cn w' b (bump N i) ∧ But b w w' := by
  have K := isReason_any (i : Int)
  rw [decide_eq_true (by omega : 0 ≤ (i : Int) ∧ (i : Int) < 13)] at K
  have hlen := hN.len
  have hc := h.cell i (by rw [hlen]; exact hi)
  have hf : ∀ j, w.drew.frozen? ⟨b, j, none⟩ = false := frozen_row (w := w.drew) h
  have hw := wrap_id (hN.at i)
  have H := Lib.hid h
  obtain ⟨n, hn⟩ : ∃ n, n = N.getD i 0 := ⟨_, rfl⟩
  have HN := Lib.hid hn
  rw [← hn] at hc hw
  have hfi := hf i
  clear hn h hf
  go_enter Tryd.func9, Tryd.ntmps9
  go_wp2_with fail
  refine (K _).mono ?_
  rintro e w1 ⟨rfl, rfl⟩
  go_wp2_with fail
  refine still_tail_any 10 (by kernel_rfl) (by kernel_rfl) ?_
  intro W eW
  simp only [List.take_succ_cons, List.take_zero, List.drop_succ_cons, List.drop_zero]
  have g0 : W.cell? ⟨b, i, none⟩ = some (.int .i64 n) := by rw [eW]; exact hc
  have g1 : W.frozen? ⟨b, i, none⟩ = false := by rw [eW]; exact hfi
  have HW := Lib.hid (show Cn W b N by rw [eW]; exact H.out)
  have HB := Lib.hid (show Below w.heap.size w W by rw [eW]; exact (Below.refl _ _).drew)
  clear eW hc hfi H
  have hi1 : (i : Int) < 13 := by omega
  repeat still_step
  refine wpStill_nil ?_
  go_wp2
  go_ret
  have hk : Cn (W.setCell ⟨b, i, none⟩ (.int .i64 ((n + 1 : Nat) : Int))) b (bump N i) := by
    have := heap_setCell_same W b i (.int .i64 ((n + 1 : Nat) : Int)) _ _ _ HW.out
    rw [cells_set] at this
    unfold bump
    rw [← HN.out]
    exact this
  exact ⟨rfl, hk, (But.of_below HB.out).setCell _ _⟩
end Go.Proofs.YtfhpckglckcdjaaDoor
