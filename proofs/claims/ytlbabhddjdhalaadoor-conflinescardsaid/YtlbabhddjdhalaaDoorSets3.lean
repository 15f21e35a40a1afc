/- addServer, and the words' doings. -/
import Derived.Test.YtlbabhddjdhalaaDoorSets2
namespace Go.Proofs.YtlbabhddjdhalaaDoor
open Go.RowKit Go.Proofs.Lx

def AddPost (w : World) (H bc : Nat) (r : Nat × Cfg) (e : Ending) (w' : World) : Prop := e = .returned (.int .i64 (r.1 : Nat)) ∧ Cell w' H bc r.2 ∧ Kp H bc w w'
theorem ap_of {w w' : World} {H bc n : Nat} {r : Nat × Cfg} {c : Cfg} (h : r = (n, c)) (hc : Cell w' H bc c) (hk : Kp H bc w w') : AddPost w H bc r (.returned (.int .i64 (n : Nat))) w' := by
  subst h; exact ⟨rfl, hc, hk⟩

theorem slice_of {w : World} {base e size n : Nat} {v : Value} {xs : List Value} (h : w.ownsRow base e size v n xs) : ∃ A n c, v = .slice A n c := by
  obtain ⟨A, c, h, _⟩ := own_len h; exact ⟨_, _, _, h⟩
theorem block_kept {w w2 : World} {H bc : Nat} {c : Cfg} {v : Value} {o : Obj} {cs : Array Value} (hc : Cell w H bc c) (hb : w.heap[bc]? = some (.cells cs 24 (0, 0))) (hr : Row w H v c.S) (hlt : bc < H) (hg : (w.alloc o).grownBy w2 v.ownBlock) : w2.heap[bc]? = some (.cells cs 24 (0, 0)) := by
  rw [hg.block bc (by have := hc.lt; simp; omega) (fun e => by have := (World.ownsRow.lt hr bc e.symm).1; omega), heap_alloc_old _ _ hc.lt]
  exact hb

set_option maxRecDepth 100000 in
set_option maxHeartbeats 1000000 in
theorem addServer_any (a : Int) (bc H : Nat) (c : Cfg) (w : World) (hc : Cell w H bc c) (hlt : bc < H) (hH : H ≤ w.heap.size) (hl : c.S.length ≤ 16) :
    Calls Tryd.prog 50 #[.pointer (some ⟨bc, 0, none⟩), .int .i64 a] w fun e w' => AddPost w H bc (addS c a) e w' := by
  obtain ⟨i0, hi, hz0, hz1, hz2⟩ := info_parts Tryd.info3
  obtain ⟨A, cp, hcp, hb, hrow, c0, _, _, _, _, _, hf⟩ := hc.facts
  have HC := Lib.hid hc
  have HB := Lib.hid hb
  have HR := Lib.hid hrow
  have K := Lib.hid (contains_any _ c.S a w hrow.ints (by omega))
  have f0 := hf 0
  clear hc hb hrow hf
  obtain ⟨N, hN⟩ : ∃ N, N = c.S.length := ⟨_, rfl⟩
  have HN := Lib.hid hN
  rw [← hN] at hcp c0 K HB HR hl
  by_cases hm : a ∈ c.S
  · have HE : Hid (addS c a = (12, c)) := if_pos hm
    have t0 : decide (a ∈ c.S) = true := decide_eq_true hm
    clear hm hN
    go_enter Tryd.func50, Tryd.ntmps50
    go_wp2_with (go_at_call 28; refine K.out.mono ?_; rintro e w1 ⟨rfl, rfl⟩)
    go_ret
    exact ap_of HE.out HC.out (Kp.refl H bc w)
  · have t0 : decide (a ∈ c.S) = false := decide_eq_false hm
    by_cases h16 : c.S.length = 16
    · have HE : Hid (addS c a = (11, c)) := (if_neg hm).trans (if_pos h16)
      have t1 : ((N : Int) == 16) = true := by simp; omega
      clear hm h16 hN
      go_enter Tryd.func50, Tryd.ntmps50
      go_wp2_with (go_at_call 28; refine K.out.mono ?_; rintro e w1 ⟨rfl, rfl⟩)
      go_ret
      exact ap_of HE.out HC.out (Kp.refl H bc w)
    · have HE : Hid (addS c a = (0, { c with S := c.S ++ [a] })) := (if_neg hm).trans (if_neg h16)
      have t1 : ((N : Int) == 16) = false := by simp; omega
      clear hm h16 hN
      go_enter Tryd.func50, Tryd.ntmps50
      have HO : Hid (w.ownsRow H 3 1 (.slice A N cp) c.S.length (c.S.map (Value.int .i64))) := HR.out
      go_wp2_with (first
        | (go_at_call 28; refine K.out.mono ?_; rintro e w1 ⟨rfl, rfl⟩)
        | (at_builtin; go_loud (refine wpList_append_own _ rfl (.tmp 21) (.tmp 23) 22 rfl H 3 i0 (.int .i64 0) 1 8 Tryd.underlying22 hi hz0 hz1 hz2 rfl (by decide) _ _ _ rfl (HO.out.alloc _) ⟨w.heap.size, 0, none⟩ 1 1 [.int .i64 a] rfl rfl (cell_one_new _ _ _) (one_int _) (by have := HN.out; unfold maxLen; omega) (by have := HN.out; omega) (by have := HN.out; simp; omega) ?_; intro v' w2 hown' hgrow _; obtain ⟨A2, n2, c2, rfl⟩ := slice_of hown'; have hb2 := block_kept HC.out HB.out HR.out hlt hgrow; have d0 : w2.cell? ⟨bc, 0, none⟩ = some (.slice A N cp) := Lib.cell_of_heap hb2 0; have g0 : w2.frozen? ⟨bc, 0, none⟩ = false := Lib.frozen_of_heap hb2 0; have HB2 := Lib.hid hb2; have HR2 := Lib.hid (row_snoc hown'); have HK : Hid (Kp H bc w w2) := Kp.grown (Kp.of_below ((Below.refl w.heap.size w).alloc (Nat.le_refl _) _) hH (Nat.le_refl _)) (HO.out.alloc _) hgrow (by simp; omega); clear hown' hgrow hb2)))
      go_ret
      exact ap_of HE.out ⟨_, by rw [heap_setCell_same _ _ _ _ _ _ HB2.out]; rfl, row_set HR2.out hlt⟩ (HK.out.setCell _ _)
end Go.Proofs.YtlbabhddjdhalaaDoor
