/- LexBlanks' closure: the next blank. -/
import Derived.Test.YtclcnmmhmjbjjaaDoorBlx
import Derived.BigRegion
import Derived.IntWalk
import Derived.Deep.RegionHeld3
import Derived.Deep.DeepCutAuto
namespace Go.Proofs.YtclcnmmhmjbjjaaDoor
open Go.RowKit Go.Proofs.Lx
set_option linter.unusedVariables false

/-- Numbers of a kind lie in v. -/
def Nums (k : IntKind) (top : Nat) (w : World) (v : Value) (xs : List Nat) : Prop :=
  ∃ A c, v = .slice A xs.length c ∧ xs.length ≤ c ∧ (∀ x ∈ xs, x ≤ top) ∧ (0 < xs.length → ∃ g o, A = some ⟨g, o, none⟩ ∧ g < w.heap.size ∧ ∀ (j x : Nat), xs[j]? = some x → w.cell? ⟨g, o + j, none⟩ = some (.int k (x : Int)))
theorem Nums.below {k : IntKind} {top : Nat} {w w' : World} {B : Nat} {v : Value} {xs : List Nat} (h : Nums k top w v xs) (hb : Below B w w') (hB : w.heap.size ≤ B) : Nums k top w' v xs := by
  obtain ⟨A, c, h1, h2, h3, h4⟩ := h
  refine ⟨A, c, h1, h2, h3, fun hx => ?_⟩
  obtain ⟨g, o, e, hg, hc⟩ := h4 hx
  exact ⟨g, o, e, Nat.lt_of_lt_of_le hg hb.size, fun j x hj => (hb.cell (p := ⟨g, o + j, none⟩) (by simp; omega)).trans (hc j x hj)⟩

/-- What the closure leaves: a blank; one more in its counter; nothing else of old is turned. -/
def Next (b1 a : Nat) (w : World) (e : Ending) (w' : World) : Prop := ∃ s : ByteArray, e = .returned (.string s) ∧ IsBl s.data.toList ∧ w'.cell? ⟨b1, 0, none⟩ = some (.int .i64 ((a : Int) + 1)) ∧ w'.frozen? ⟨b1, 0, none⟩ = false ∧ w.grownBy w' (some b1)

set_option maxRecDepth 100000 in
set_option maxHeartbeats 4000000 in
theorem blank_some (w : World) (b0 b1 : Nat) (g o c n : Nat) (a x r : Nat) (hn0 : 0 < n) (hnc : n ≤ c) (hz : n ≤ 100) (ha : a ≤ 1000000) (hx : x ≤ 255) (hr : x % 4 = r)
    (c0 : w.cell? ⟨b0, 0, none⟩ = some (.slice (some ⟨g, o, none⟩) n c)) (c1 : w.cell? ⟨b1, 0, none⟩ = some (.int .i64 (a : Int))) (f1 : w.frozen? ⟨b1, 0, none⟩ = false) (h01 : b0 ≠ b1) (hgb : g ≠ b1)
    (hc : w.cell? ⟨g, o + a % n, none⟩ = some (.int .u8 (x : Int))) :
    Calls Tryd.prog 19 #[.pointer (some ⟨b1, 0, none⟩), .pointer (some ⟨b0, 0, none⟩)] w fun e w' => Next b1 a w e w' := by
  have hne : ((n : Int) == 0) = false := beqF (by omega)
  obtain ⟨j, hj⟩ : ∃ j, j = a % n := ⟨_, rfl⟩
  have hjn : j < n := by rw [hj]; exact Nat.mod_lt _ hn0
  rw [← hj] at hc
  have t1 : ((a : Int)).tmod (n : Int) = (j : Int) := by rw [hj]; rfl
  have t2 : (a : Int) % (n : Int) = (j : Int) := by rw [hj]; rfl
  have hrr : r < 4 := by omega
  have t3 : ((x : Int)).tmod 4 = (r : Int) := by rw [← hr]; rfl
  have t4 : (x : Int) % 4 = (r : Int) := by omega
  clear hj hr
  go_enter Tryd.func19, Tryd.ntmps19
  go_wp2
  obtain ⟨W1, hW1⟩ : ∃ W1, W1 = w.setCell ⟨b1, 0, none⟩ (.int .i64 ((a : Int) + 1)) := ⟨_, rfl⟩
  have k0 : W1.cell? ⟨b0, 0, none⟩ = some (.slice (some ⟨g, o, none⟩) n c) := by
    rw [hW1]; exact (World.cell?_setCell_far _ _ _ _ (by exact Ne.symm h01)).trans c0
  have k1 : W1.cell? ⟨b1, 0, none⟩ = some (.int .i64 ((a : Int) + 1)) := by
    rw [hW1]; exact World.cell?_setCell_same' _ _ _ (by rw [c1]; rfl)
  have k2 : W1.cell? ⟨g, o + j, none⟩ = some (.int .u8 (x : Int)) := by
    rw [hW1]; exact (World.cell?_setCell_far _ _ _ _ (by exact Ne.symm hgb)).trans hc
  have k3 : W1.frozen? ⟨b1, 0, none⟩ = false := by rw [hW1, World.frozen?_setCell]; exact f1
  have hg1 : w.grownBy W1 (some b1) := by
    rw [hW1]
    exact ⟨rfl, rfl, rfl, by simp [World.setCell], fun k _ hne => Below.heap_setCell _ _ _ _ (fun e => hne (by simp at e; rw [e]))⟩
  rw [← hW1]
  have HG := Lib.hid hg1
  clear hW1 hg1 c0 c1 f1 hc
  have w1 : IntKind.i64.wrap ((a : Int) + 1 - 1) = (a : Int) := by rw [show (a : Int) + 1 - 1 = a by omega]; exact IntWalk.i64_in _ (by omega)
  have w2 : IntKind.i64.wrap (a : Int) = (a : Int) := IntWalk.i64_in _ (by omega)
  have z1 : ¬ n = 0 := by omega
  have z2 : ¬ (n : Int) = 0 := by omega
  have z3 : (0 : Int) ≤ (j : Int) := by omega
  have z4 : (j : Int) < (n : Int) := by omega
  have e0 : ∀ O, (W1.alloc O).cell? ⟨b0, 0, none⟩ = some (.slice (some ⟨g, o, none⟩) n c) := fun O => (World.cell?_alloc_lt W1 O _ (World.block_lt_of_cell? _ _ k0)).trans k0
  have e1 : ∀ O, (W1.alloc O).cell? ⟨b1, 0, none⟩ = some (.int .i64 ((a : Int) + 1)) := fun O => (World.cell?_alloc_lt W1 O _ (World.block_lt_of_cell? _ _ k1)).trans k1
  have e2 : ∀ O, (W1.alloc O).cell? ⟨g, o + j, none⟩ = some (.int .u8 (x : Int)) := fun O => (World.cell?_alloc_lt W1 O _ (World.block_lt_of_cell? _ _ k2)).trans k2
  have hlt1 : b1 < W1.heap.size := World.block_lt_of_cell? _ _ k1
  have HR : r = 0 ∨ r = 1 ∨ r = 2 ∨ r = 3 := by omega
  clear hrr
  rcases HR with rfl | rfl | rfl | rfl
  all_goals
    go_region
    all_goals go_wp2
    all_goals go_ret
    all_goals exact ⟨_, rfl, ⟨by decide, by decide, by decide⟩, e1 _, (Below.frozen (B := W1.heap.size) ((Below.refl _ _).alloc (Nat.le_refl _) _) (p := ⟨b1, 0, none⟩) hlt1).trans k3, grown_trans HG.out (grown_of_below (B := W1.heap.size) ((Below.refl _ _).alloc (Nat.le_refl _) _).drew (Nat.le_refl _) _) (.inl rfl)⟩
set_option maxRecDepth 100000 in
set_option maxHeartbeats 4000000 in
theorem blank_none (w : World) (b0 b1 : Nat) (A : Option Addr) (c a : Nat) (ha : a ≤ 1000000)
    (c0 : w.cell? ⟨b0, 0, none⟩ = some (.slice A 0 c)) (c1 : w.cell? ⟨b1, 0, none⟩ = some (.int .i64 (a : Int))) (f1 : w.frozen? ⟨b1, 0, none⟩ = false) (h01 : b0 ≠ b1) :
    Calls Tryd.prog 19 #[.pointer (some ⟨b1, 0, none⟩), .pointer (some ⟨b0, 0, none⟩)] w fun e w' => Next b1 a w e w' := by
  go_enter Tryd.func19, Tryd.ntmps19
  go_wp2
  go_ret
  refine ⟨_, rfl, ⟨by decide, by decide, by decide⟩, World.cell?_setCell_same' _ _ _ (by rw [c1]; rfl), by rw [World.frozen?_setCell]; exact f1, ?_⟩
  exact ⟨rfl, rfl, rfl, by simp [World.setCell], fun k _ hne => Below.heap_setCell _ _ _ _ (fun e => hne (by simp at e; rw [e]))⟩
theorem blank_any (w : World) (b0 b1 a : Nat) (v : Value) (xs : List Nat) (ha : a ≤ 1000000) (hz : xs.length ≤ 100) (hv : Nums .u8 255 w v xs)
    (c0 : w.cell? ⟨b0, 0, none⟩ = some v) (c1 : w.cell? ⟨b1, 0, none⟩ = some (.int .i64 (a : Int))) (f1 : w.frozen? ⟨b1, 0, none⟩ = false) (h01 : b0 ≠ b1) (hgb : ∀ g o n c, v = .slice (some ⟨g, o, none⟩) n c → 0 < n → g ≠ b1) :
    Calls Tryd.prog 19 #[.pointer (some ⟨b1, 0, none⟩), .pointer (some ⟨b0, 0, none⟩)] w fun e w' => Next b1 a w e w' := by
  obtain ⟨A, c, rfl, hc, hx, hcell⟩ := hv
  by_cases h0 : 0 < xs.length
  · obtain ⟨g, o, rfl, hg, hcell⟩ := hcell h0
    have hm : a % xs.length < xs.length := Nat.mod_lt _ h0
    exact blank_some w b0 b1 g o c xs.length a _ _ h0 hc hz ha (hx _ (List.getElem_mem hm)) rfl c0 c1 f1 h01 (hgb _ _ _ _ rfl h0) (hcell _ _ (List.getElem?_eq_getElem hm))
  · have e : xs.length = 0 := by omega
    rw [e] at c0
    exact blank_none w b0 b1 A c a ha c0 c1 f1 h01
end Go.Proofs.YtclcnmmhmjbjjaaDoor
