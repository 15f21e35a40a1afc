/- LexBlanks: what comes in; where there is too much. -/
import Derived.Test.YtclcnmmhmjbjjaaDoorBlank
import Derived.Lib.ItoaLen
namespace Go.Proofs.YtclcnmmhmjbjjaaDoor
open Go.RowKit Go.Proofs.Lx

def Rows16 (w : World) (v : Value) (ls : List (List Nat)) : Prop :=
  ∃ A c, v = .slice A ls.length c ∧ ls.length ≤ c ∧ (0 < ls.length → ∃ g o, A = some ⟨g, o, none⟩ ∧ g < w.heap.size ∧ ∀ (j : Nat) (xs : List Nat), ls[j]? = some xs → ∃ u, w.cell? ⟨g, o + j, none⟩ = some u ∧ Nums .u16 65535 w u xs)
theorem Rows16.below {w w' : World} {B : Nat} {v : Value} {ls : List (List Nat)} (h : Rows16 w v ls) (hb : Below B w w') (hB : w.heap.size ≤ B) : Rows16 w' v ls := by
  obtain ⟨A, c, h1, h2, h4⟩ := h
  refine ⟨A, c, h1, h2, fun hx => ?_⟩
  obtain ⟨g, o, e, hg, hc⟩ := h4 hx
  refine ⟨g, o, e, Nat.lt_of_lt_of_le hg hb.size, fun j xs hj => ?_⟩
  obtain ⟨u, hu, hn⟩ := hc j xs hj
  exact ⟨u, (hb.cell (p := ⟨g, o + j, none⟩) (by simp; omega)).trans hu, hn.below hb hB⟩

set_option maxRecDepth 100000 in
set_option maxHeartbeats 4000000 in
theorem blanks_many (v0 v1 : Value) (ls : List (List Nat)) (bs : List Nat) (w : World) (hm : Mx w) (h0 : Rows16 w v0 ls) (h1 : Nums .u8 255 w v1 bs) (h : (20 : Int) < (ls.length : Int) ∨ ((ls.length : Int) ≤ 20 ∧ (100 : Int) < (bs.length : Int))) :
    Calls Tryd.prog 6 #[v0, v1] w fun e w' => e = .returned (.bool true) ∧ Below w.heap.size w w' := by
  obtain ⟨A0, c0, rfl, _, _⟩ := h0
  obtain ⟨A1, c1, rfl, _, _, _⟩ := h1
  have HM : Hid (∀ o, Mx (w.alloc o)) := fun o => hm.alloc o
  clear hm
  rcases h with h | ⟨h, h'⟩
  all_goals
    go_enter Tryd.func6, Tryd.ntmps6
    go_wp2_with fail
    refine (alive_any _ (HM.out _)).mono ?_
    rintro e w1 ⟨rfl, hb1⟩
    go_wp2
    go_ret
    exact ⟨rfl, ((Below.refl _ _).alloc (Nat.le_refl _) _).trans (hb1.mono (by simp))⟩
/-- The world of the loops: the blanks' box, the counter. -/
structure St (w : World) (v1 : Value) (wr : World) (a : Nat) : Prop where
  below : Below w.heap.size w wr
  c0 : wr.cell? ⟨w.heap.size, 0, none⟩ = some v1
  c1 : wr.cell? ⟨w.heap.size + 1, 0, none⟩ = some (.int .i64 (a : Int))
  f1 : wr.frozen? ⟨w.heap.size + 1, 0, none⟩ = false
theorem St.keep {w wr w' : World} {v1 : Value} {a : Nat} (h : St w v1 wr a) (hb : Below wr.heap.size wr w') : St w v1 w' a := by
  have l0 := World.block_lt_of_cell? _ _ h.c0
  have l1 := World.block_lt_of_cell? _ _ h.c1
  exact ⟨h.below.trans (hb.mono h.below.size), (hb.cell (p := ⟨w.heap.size, 0, none⟩) l0).trans h.c0, (hb.cell (p := ⟨w.heap.size + 1, 0, none⟩) l1).trans h.c1, (hb.frozen (p := ⟨w.heap.size + 1, 0, none⟩) l1).trans h.f1⟩
theorem St.size {w wr : World} {v1 : Value} {a : Nat} (h : St w v1 wr a) : w.heap.size + 1 < wr.heap.size := World.block_lt_of_cell? _ _ h.c1
theorem blank_st (w wr : World) (v1 : Value) (bs : List Nat) (a : Nat) (h : St w v1 wr a) (hv : Nums .u8 255 w v1 bs) (ha : a ≤ 1000000) (hz : bs.length ≤ 100) :
    Calls Tryd.prog 19 #[.pointer (some ⟨w.heap.size + 1, 0, none⟩), .pointer (some ⟨w.heap.size, 0, none⟩)] wr fun e w' => ∃ s : ByteArray, e = .returned (.string s) ∧ Hid (IsBl s.data.toList) ∧ s.size ≤ 3 ∧ St w v1 w' (a + 1) := by
  have hv' := hv.below h.below (Nat.le_refl _)
  refine (blank_any wr w.heap.size (w.heap.size + 1) a v1 bs ha hz hv' h.c0 h.c1 h.f1 (by omega) ?_).mono ?_
  · rintro g o n c rfl hn
    obtain ⟨A, c', e, _, _, hcell⟩ := hv
    injection e with e1 e2 _
    obtain ⟨g', o', e', hg, _⟩ := hcell (by omega)
    rw [e'] at e1
    injection e1 with e1
    injection e1 with e1
    omega
  · rintro e w' ⟨s, rfl, hs, k1, k2, hg⟩
    refine ⟨s, rfl, hs, by rw [← len_eq]; exact hs.2.2, ?_⟩
    have l0 := World.block_lt_of_cell? _ _ h.c0
    refine ⟨Below.grown h.below hg h.below.size (fun k hk => by injection hk with hk; omega), ?_, by rw [k1]; simp, k2⟩
    have := hg.block w.heap.size l0 (by simp)
    rw [World.cell?_of_block (a := ⟨w.heap.size, 0, none⟩) this]; exact h.c0
def decs (xs : List Nat) : List Bs := xs.map Lib.decDigits
theorem text_nat (x : Nat) (w : World) (hx : x ≤ 65535) (ht : Pow w) : Calls Tryd.prog 16 #[.int .i64 (x : Int)] w fun e w' => ∃ t : ByteArray, e = .returned (.string t) ∧ Hid (t.data.toList = Lib.decDigits x) ∧ t.size ≤ 20 ∧ Below w.heap.size w w' := by
  refine (text_any x w (by omega) (by omega) ht).mono ?_
  rintro e w' ⟨rfl, hb⟩
  have e0 : (textS (x : Int)).data.toList = Lib.decDigits x := by rw [textS_list]; unfold textOf; rw [if_pos (by omega)]; rfl
  refine ⟨_, rfl, e0, ?_, hb⟩
  rw [← len_eq, e0, Lib.decDigits_length]
  exact Lib.nDigits_le20 x (by omega)
end Go.Proofs.YtclcnmmhmjbjjaaDoor
