/- The contracts of a ring of smp: by genring.py. -/
import Derived.Test.YtcmmhgalnfleoaaMem
import Derived.BigQuiet
import Derived.StillTailTactics
namespace Go.Proofs.Ytcmmhgalnfleoaa
open Go.RowKit

theorem rinfo_smp : (Try.prog.info? 31).map (fun i => (i.zero, i.size, i.bytes)) = some (some (.agg #[.int .i64 0, .int .i64 0, .int .i64 0, .int .i64 0]), 4, 32) := by kernel_rfl
theorem rsize_smp : (Try.prog.info? 31).map (·.size) = some 4 := by kernel_rfl
abbrev Rg_smp := Rg 68 31 4
abbrev Added_smp := Added 68 31 4

theorem new_smp (m : Nat) (w : World) (h1 : 1 ≤ m) (h2 : m ≤ 64) : Calls Try.prog 21 #[.int .i64 (m : Int)] w fun e w' => e = .returned (.tuple #[.pointer (some ⟨w.heap.size, 0, none⟩), .int .i64 0]) ∧ Rg_smp w' w.heap.size w.heap.size m 0 0 (.slice none 0 0) [] ∧ Below w.heap.size w w' := by
  go_enter Try.func21, Try.ntmps21
  go_wp2
  go_ret2
  exact ⟨rfl, ⟨heap_alloc_new w _, World.ownsRow_nil _ _ _ _, by simp, Nat.le_refl _, Nat.zero_le _, by decide⟩, (Below.refl _ _).alloc (Nat.le_refl _) _⟩
theorem new_bad_smp (m : Int) (w : World) (h : m < 1 ∨ 64 < m) : Calls Try.prog 21 #[.int .i64 m] w fun e w' => e = .returned (.tuple #[.pointer none, .int .i64 3]) ∧ w = w' := by
  rcases h with h | h
  · go_enter Try.func21, Try.ntmps21
    go_wp2
    go_ret2
    exact ⟨rfl, rfl⟩
  · go_enter Try.func21, Try.ntmps21
    go_wp2
    go_ret2
    exact ⟨rfl, rfl⟩

set_option maxRecDepth 100000 in
set_option maxHeartbeats 1000000 in
theorem drop_in_smp (b g m k cp c : Nat) (cur cs : List Value) (w : World) (hb : w.heap[b]? = some (.cells #[.int .i64 (m : Int), .slice (some ⟨g, 0, none⟩) (k + 1) cp, .int .i64 (c : Int)] 68 (0, 0))) (hg : w.heap[g]? = some (.cells cur.toArray 31 (0, 0)))
    (hl : cur.length = cp * 4) (hc : k + 1 ≤ cp) (hm : cp ≤ 9223372036854775807) (hbg : b ≠ g) (hcs : (cur.take ((k + 1) * 4)).drop 4 = cs) (hone : ∀ v ∈ cs, v.oneCell' = true) :
    Calls Try.prog 27 #[.pointer (some ⟨b, 0, none⟩)] w fun e w' => e = .returned (.tuple #[]) ∧ w'.heap[b]? = some (.cells #[.int .i64 (m : Int), .slice (some ⟨g, 0, none⟩) k cp, .int .i64 (c : Int)] 68 (0, 0)) ∧
      w'.heap[g]? = some (.cells (splice cur 0 cs).toArray 31 (0, 0)) ∧ Two b (some g) w w' := by
  have f1 : w.cell? ⟨b, 1, none⟩ = some (.slice (some ⟨g, 0, none⟩) (k + 1) cp) := by rw [cell_of_row _ _ _ _ _ _ hb]; rfl
  have HB := Lib.hid hb
  have HG := Lib.hid hg
  have hlen : cs.length = k * 4 := by rw [← hcs]; simp; omega
  have hsrc : ∀ (j : Nat) (v : Value), cs[j]? = some v → w.cell? ((⟨g, 4, none⟩ : Addr).add j) = some v := by
    intro j v hv
    rw [add_none, cell_of_row _ _ _ _ _ _ hg]
    rw [← hcs] at hv
    simp only [List.getElem?_drop, List.getElem?_take] at hv
    split at hv
    · simpa using hv
    · cases hv
  have hfit : 0 + cs.length ≤ cur.length := by rw [hlen, hl]; omega
  have F := Lib.hid (And.intro hlen (And.intro hsrc (And.intro hfit hone)))
  clear hb hg hl hcs hlen hsrc hfit hone
  by_cases hc1 : cp = 1
  · obtain rfl : k = 0 := by omega
    subst hc1
    go_enter Try.func27, Try.ntmps27
    go_wp2_with fail
    go_still_tail 9, (by kernel_rfl)
    refine wpList_copy_k rfl (.tmp 6) (.tmp 11) 40 40 rfl 31 4 Try.underlying40 rsize_smp g 0 (0 + 1) 1 0 _ (some ⟨g, 0, none⟩) rfl rfl cur cs 31 HG.out 0 (by simp) F.out.1 (fun h0 => ⟨_, rfl, fun j v hv => absurd h0 (by have := F.out.1; omega)⟩) F.out.2.2.1 F.out.2.2.2 ?_
    intro w1 hw1
    have HW := Lib.hid hw1
    have Hb1 : w1.heap[b]? = some (.cells #[.int .i64 (m : Int), .slice (some ⟨g, 0, none⟩) (0 + 1) 1, .int .i64 (c : Int)] 68 (0, 0)) := by rw [hw1, setRow_other _ _ _ _ hbg]; exact HB.out
    have f3 : w1.cell? ⟨b, 1, none⟩ = some (.slice (some ⟨g, 0, none⟩) (0 + 1) 1) := by rw [cell_of_row _ _ _ _ _ _ Hb1]; rfl
    have f4 : w1.frozen? ⟨b, 1, none⟩ = false := frozen_row Hb1 1
    have HB1 := Lib.hid Hb1
    clear hw1 Hb1 f1
    go_wp2
    go_end0
    refine ⟨rfl, heap_setCell_same w1 b 1 _ _ _ _ HB1.out, ?_, ?_⟩
    · rw [Below.heap_setCell _ _ _ _ (by exact fun e => hbg e.symm), HW.out]
      exact setRow_heap _ g _ _ _ _ HG.out
    · rw [HW.out]
      exact ((show Two b (some g) w (World.mk w.heap w.tape (w.drawn + 1) w.os w.output) from ⟨rfl, rfl, rfl, Nat.le_refl _, fun _ _ _ _ => rfl⟩).setRow _).setCell 1 _
  · have q1 : (1 : Int) ≤ (k : Int) + 1 := by omega
    have q2 : (k : Int) + 1 ≤ (cp : Int) := by omega
    have q3 : (k : Int) ≤ (cp : Int) := by omega
    have q4 : k ≤ cp := by omega
    go_enter Try.func27, Try.ntmps27
    go_wp2_with fail
    go_still_tail 9, (by kernel_rfl)
    refine wpList_copy_k rfl (.tmp 6) (.tmp 11) 40 40 rfl 31 4 Try.underlying40 rsize_smp g 0 (k + 1) cp k _ (some ⟨g, 4, none⟩) rfl rfl cur cs 31 HG.out k (by simp) F.out.1 (fun h0 => ⟨_, rfl, F.out.2.1⟩) F.out.2.2.1 F.out.2.2.2 ?_
    intro w1 hw1
    have HW := Lib.hid hw1
    have Hb1 : w1.heap[b]? = some (.cells #[.int .i64 (m : Int), .slice (some ⟨g, 0, none⟩) (k + 1) cp, .int .i64 (c : Int)] 68 (0, 0)) := by rw [hw1, setRow_other _ _ _ _ hbg]; exact HB.out
    have f3 : w1.cell? ⟨b, 1, none⟩ = some (.slice (some ⟨g, 0, none⟩) (k + 1) cp) := by rw [cell_of_row _ _ _ _ _ _ Hb1]; rfl
    have f4 : w1.frozen? ⟨b, 1, none⟩ = false := frozen_row Hb1 1
    have HB1 := Lib.hid Hb1
    clear hw1 Hb1 f1
    go_wp2
    go_end0
    refine ⟨rfl, heap_setCell_same w1 b 1 _ _ _ _ HB1.out, ?_, ?_⟩
    · rw [Below.heap_setCell _ _ _ _ (by exact fun e => hbg e.symm), HW.out]
      exact setRow_heap _ g _ _ _ _ HG.out
    · rw [HW.out]
      exact ((show Two b (some g) w (World.mk w.heap w.tape (w.drawn + 1) w.os w.output) from ⟨rfl, rfl, rfl, Nat.le_refl _, fun _ _ _ _ => rfl⟩).setRow _).setCell 1 _
theorem drop_smp {w : World} {base b m c k : Nat} {v : Value} {xs : List Value} (h : Rg_smp w base b m c (k + 1) v xs) : Calls Try.prog 27 #[.pointer (some ⟨b, 0, none⟩)] w fun e w' => e = .returned (.tuple #[]) ∧ ∃ v', v'.ownBlock = v.ownBlock ∧ Rg_smp w' base b m c k v' (xs.drop 4) ∧ Two b v.ownBlock w w' := by
  obtain ⟨g, cp, cur, rfl, h1, h2, h3, h4, h5, h6, h7⟩ := h.open (by omega)
  refine (drop_in_smp b g m k cp c cur (xs.drop 4) w h.blk h2 h5 h3 (by unfold maxLen at h4; omega) h7 (by rw [h6]) (fun x hx => h.one x (List.mem_of_mem_drop hx))).mono ?_
  rintro e w' ⟨rfl, k1, k2, k3⟩
  exact ⟨rfl, .slice (some ⟨g, 0, none⟩) k cp, rfl, h.drop_end h6 h5 h3 h4 h1 k1 k2, k3⟩

set_option maxRecDepth 100000 in
set_option maxHeartbeats 1000000 in
theorem add_room_smp {w : World} {base b m c n : Nat} {v : Value} {xs : List Value} (o d t s : Int) (h : Rg_smp w base b m c n v xs) (hnm : n < m) (h64 : m ≤ 64) (hc : c ≤ 1000000000) :
    Calls Try.prog 22 #[.pointer (some ⟨b, 0, none⟩), .agg #[.int .i64 o, .int .i64 d, .int .i64 t, .int .i64 s]] w fun e w' => e = .returned (.int .i64 0) ∧ ∃ v', Added_smp w w' base b m c n v xs [.int .i64 o, .int .i64 d, .int .i64 t, .int .i64 s] v' := by
  obtain ⟨i0, hi0, hz0, hz1, hz2⟩ := info_parts rinfo_smp
  obtain ⟨A, cp, hv, _, _⟩ := own_len h.row
  subst hv
  obtain ⟨W0, hW0⟩ : ∃ W0, W0 = w.alloc (.cells #[.int .i64 o, .int .i64 d, .int .i64 t, .int .i64 s] 31) := ⟨_, rfl⟩
  have h' := h.below (B := w.heap.size) (w' := W0) (by rw [hW0]; exact (Below.refl _ _).alloc (Nat.le_refl _) _) (Nat.le_refl _)
  have f0 := h'.facts.1
  have f1 := h'.facts.2.1
  have hne : ¬ (n : Int) = (m : Int) := by omega
  have H := Lib.hid (And.intro h' h)
  clear h h'
  go_enter Try.func22, Try.ntmps22
  go_wp2_with fail
  rw [← hW0]
  have HW0 := Lib.hid hW0
  clear hW0
  go_still_tail 9, (by kernel_rfl)
  obtain ⟨W, hW⟩ : ∃ W, W = World.mk W0.heap W0.tape (W0.drawn + 1) W0.os W0.output := ⟨_, rfl⟩
  rw [← hW]
  have gB : W.heap[w.heap.size]? = some (.cells #[.int .i64 o, .int .i64 d, .int .i64 t, .int .i64 s] 31 (0, 0)) := by rw [hW, HW0.out]; exact heap_alloc_new w _
  have x0 : W.cell? ⟨w.heap.size, 0, none⟩ = some (.int .i64 o) := by rw [cell_of_row _ _ _ _ _ _ gB]; rfl
  have x1 : W.cell? ⟨w.heap.size, 1, none⟩ = some (.int .i64 d) := by rw [cell_of_row _ _ _ _ _ _ gB]; rfl
  have x2 : W.cell? ⟨w.heap.size, 2, none⟩ = some (.int .i64 t) := by rw [cell_of_row _ _ _ _ _ _ gB]; rfl
  have x3 : W.cell? ⟨w.heap.size, 3, none⟩ = some (.int .i64 s) := by rw [cell_of_row _ _ _ _ _ _ gB]; rfl
  have K : Rg_smp W base b m c n (.slice A n cp) xs := H.out.1.drewn hW
  have HW := Lib.hid (And.intro hW HW0.out)
  clear hW f0 f1 gB HW0
  have f1 := K.facts.2.1
  have H2 := Lib.hid K
  clear K H
  go_wp2_with fail
  have hlt := H2.out.lt
  have f1a : ∀ O, (W.drew.alloc O).cell? ⟨b, 1, none⟩ = some (.slice A n cp) := fun O => (World.cell?_alloc_lt _ _ _ hlt).trans f1
  have HD := Lib.hid (H2.out.drewn (W := W.drew) rfl)
  go_region_law (refine step_append_lies _ rfl (.tmp 23) (.tmp 25) 40 rfl base 31 i0 (.agg #[.int .i64 0, .int .i64 0, .int .i64 0, .int .i64 0]) 4 32 Try.underlying40 hi0 hz0 hz1 hz2 rfl (by decide) (.slice A n cp) n xs rfl (own_below (w := W.drew) HD.out.row ((Below.refl _ _).alloc (Nat.le_refl _) _) (Nat.le_refl _)) ⟨W.heap.size, 0, none⟩ 1 1 [.int .i64 o, .int .i64 d, .int .i64 t, .int .i64 s] rfl rfl (World.news_of_block (cs := [.int .i64 o, .int .i64 d, .int .i64 t, .int .i64 s].toArray) (heap_alloc_new _ _)) (by simp [Value.oneCell']) (by decide) (by unfold maxLen; omega) (by omega) (by have := H2.out.base_le; simp; omega) _ rfl ?_; intro p1 cp1 w2 ho1 hg1 hat1 _; have B2 := Lib.hid (HD.out.snoc_blk rfl hg1); have G2 := Lib.hid (And.intro ho1 (And.intro hg1 hat1)); clear ho1 hg1 hat1; have b1 : w2.cell? ⟨b, 1, none⟩ = some (.slice A n cp) := (by rw [cell_of_row _ _ _ _ _ _ B2.out]; rfl); have b2 : w2.cell? ⟨b, 2, none⟩ = some (.int .i64 (c : Int)) := (by rw [cell_of_row _ _ _ _ _ _ B2.out]; rfl); have b3 : w2.frozen? ⟨b, 1, none⟩ = false := frozen_row B2.out 1; have b4 : w2.frozen? ⟨b, 2, none⟩ = false := frozen_row B2.out 2)
  all_goals (
    go_wp2
    go_ret
    obtain ⟨q1, q2, q3⟩ := HD.out.snoc_end hnm rfl G2.out.2.1 G2.out.1 (by simp [Value.oneCell']) G2.out.2.2 (ci := (c : Int) + 1) (by push_cast; rfl)
    have T0 : Two b (Value.slice A n cp).ownBlock w W := (Two.of_below (by rw [HW.out.2]; exact (Below.refl _ _).alloc (Nat.le_refl _) _)).trans (Two.drewn HW.out.1 b _) (fun j hj => .inl hj)
    have T1 := T0.trans (Two.drewn (W := W.drew) rfl b (Value.slice A n cp).ownBlock) (fun j hj => .inl hj)
    exact ⟨rfl, _, Added.room hnm q1 (T1.trans q2 (fun j hj => .inl hj)) (at_of q3 T1.size)⟩)
set_option maxRecDepth 100000 in
set_option maxHeartbeats 1000000 in
theorem add_full_smp {w : World} {base b c k : Nat} {v : Value} {xs : List Value} (o d t s : Int) (h : Rg_smp w base b (k + 1) c (k + 1) v xs) (h64 : k < 64) (hc : c ≤ 1000000000) :
    Calls Try.prog 22 #[.pointer (some ⟨b, 0, none⟩), .agg #[.int .i64 o, .int .i64 d, .int .i64 t, .int .i64 s]] w fun e w' => e = .returned (.int .i64 0) ∧ ∃ v', Added_smp w w' base b (k + 1) c (k + 1) v xs [.int .i64 o, .int .i64 d, .int .i64 t, .int .i64 s] v' := by
  obtain ⟨i0, hi0, hz0, hz1, hz2⟩ := info_parts rinfo_smp
  obtain ⟨A, cp, hv, _, _⟩ := own_len h.row
  subst hv
  obtain ⟨W0, hW0⟩ : ∃ W0, W0 = w.alloc (.cells #[.int .i64 o, .int .i64 d, .int .i64 t, .int .i64 s] 31) := ⟨_, rfl⟩
  have h' := h.below (B := w.heap.size) (w' := W0) (by rw [hW0]; exact (Below.refl _ _).alloc (Nat.le_refl _) _) (Nat.le_refl _)
  have f0 := h'.facts.1
  have f1 := h'.facts.2.1
  have H := Lib.hid (And.intro h' h)
  clear h h'
  go_enter Try.func22, Try.ntmps22
  go_wp2_with fail
  rw [← hW0]
  have HW0 := Lib.hid hW0
  clear hW0
  go_still_tail 9, (by kernel_rfl)
  obtain ⟨W, hW⟩ : ∃ W, W = World.mk W0.heap W0.tape (W0.drawn + 1) W0.os W0.output := ⟨_, rfl⟩
  rw [← hW]
  have gB : W.heap[w.heap.size]? = some (.cells #[.int .i64 o, .int .i64 d, .int .i64 t, .int .i64 s] 31 (0, 0)) := by rw [hW, HW0.out]; exact heap_alloc_new w _
  have KD := Lib.hid (drop_smp (H.out.1.drewn hW))
  have HW := Lib.hid (And.intro hW (And.intro HW0.out gB))
  clear hW f0 f1 gB HW0
  go_wp2_with fail
  refine KD.out.mono ?_
  rintro e W2 ⟨rfl, v2, hv2, K, T2⟩
  obtain ⟨A2, cp2, hv, _, _⟩ := own_len K.row
  subst hv
  have hsz : w.heap.size < W.heap.size := heap_lt HW.out.2.2
  have gB : W2.heap[w.heap.size]? = some (.cells #[.int .i64 o, .int .i64 d, .int .i64 t, .int .i64 s] 31 (0, 0)) := (T2.block _ hsz (by have := H.out.2.lt; omega) (fun e => by have := (own_lt H.out.2.row e.symm).2.1; omega)).trans HW.out.2.2
  have x0 : W2.cell? ⟨w.heap.size, 0, none⟩ = some (.int .i64 o) := by rw [cell_of_row _ _ _ _ _ _ gB]; rfl
  have x1 : W2.cell? ⟨w.heap.size, 1, none⟩ = some (.int .i64 d) := by rw [cell_of_row _ _ _ _ _ _ gB]; rfl
  have x2 : W2.cell? ⟨w.heap.size, 2, none⟩ = some (.int .i64 t) := by rw [cell_of_row _ _ _ _ _ _ gB]; rfl
  have x3 : W2.cell? ⟨w.heap.size, 3, none⟩ = some (.int .i64 s) := by rw [cell_of_row _ _ _ _ _ _ gB]; rfl
  have f1 := K.facts.2.1
  have H2 := Lib.hid K
  have HT := Lib.hid (And.intro hv2 T2)
  clear K hv2 T2 KD gB H hsz
  go_wp2_with fail
  have hlt := H2.out.lt
  have f1a : ∀ O, (W2.drew.alloc O).cell? ⟨b, 1, none⟩ = some (.slice A2 k cp2) := fun O => (World.cell?_alloc_lt _ _ _ hlt).trans f1
  have HD := Lib.hid (H2.out.drewn (W := W2.drew) rfl)
  go_region_law (refine step_append_lies _ rfl (.tmp 23) (.tmp 25) 40 rfl base 31 i0 (.agg #[.int .i64 0, .int .i64 0, .int .i64 0, .int .i64 0]) 4 32 Try.underlying40 hi0 hz0 hz1 hz2 rfl (by decide) (.slice A2 k cp2) k (xs.drop 4) rfl (own_below (w := W2.drew) HD.out.row ((Below.refl _ _).alloc (Nat.le_refl _) _) (Nat.le_refl _)) ⟨W2.heap.size, 0, none⟩ 1 1 [.int .i64 o, .int .i64 d, .int .i64 t, .int .i64 s] rfl rfl (World.news_of_block (cs := [.int .i64 o, .int .i64 d, .int .i64 t, .int .i64 s].toArray) (heap_alloc_new _ _)) (by simp [Value.oneCell']) (by decide) (by unfold maxLen; omega) (by omega) (by have := H2.out.base_le; simp; omega) _ rfl ?_; intro p1 cp1 w2 ho1 hg1 hat1 _; have B2 := Lib.hid (HD.out.snoc_blk rfl hg1); have G2 := Lib.hid (And.intro ho1 (And.intro hg1 hat1)); clear ho1 hg1 hat1; have b1 : w2.cell? ⟨b, 1, none⟩ = some (.slice A2 k cp2) := (by rw [cell_of_row _ _ _ _ _ _ B2.out]; rfl); have b2 : w2.cell? ⟨b, 2, none⟩ = some (.int .i64 (c : Int)) := (by rw [cell_of_row _ _ _ _ _ _ B2.out]; rfl); have b3 : w2.frozen? ⟨b, 1, none⟩ = false := frozen_row B2.out 1; have b4 : w2.frozen? ⟨b, 2, none⟩ = false := frozen_row B2.out 2)
  all_goals (
    go_wp2
    go_ret
    obtain ⟨q1, q2, q3⟩ := HD.out.snoc_end (by omega) rfl G2.out.2.1 G2.out.1 (by simp [Value.oneCell']) G2.out.2.2 (ci := (c : Int) + 1) (by push_cast; rfl)
    rw [HT.out.1] at q2 q3
    have T0 : Two b (Value.slice A (k + 1) cp).ownBlock w W := (Two.of_below (by rw [HW.out.2.1]; exact (Below.refl _ _).alloc (Nat.le_refl _) _)).trans (Two.drewn HW.out.1 b _) (fun j hj => .inl hj)
    have T1 := (T0.trans HT.out.2 (fun j hj => .inl hj)).trans (Two.drewn (W := W2.drew) rfl b (Value.slice A (k + 1) cp).ownBlock) (fun j hj => .inl hj)
    exact ⟨rfl, _, Added.full q1 (T1.trans q2 (fun j hj => .inl hj)) (at_of q3 T1.size)⟩)
theorem add_smp {w : World} {base b m c n : Nat} {v : Value} {xs : List Value} (o d t s : Int) (h : Rg_smp w base b m c n v xs) (h1 : 1 ≤ m) (h64 : m ≤ 64) (hc : c ≤ 1000000000) :
    Calls Try.prog 22 #[.pointer (some ⟨b, 0, none⟩), .agg #[.int .i64 o, .int .i64 d, .int .i64 t, .int .i64 s]] w fun e w' => e = .returned (.int .i64 0) ∧ ∃ v', Added_smp w w' base b m c n v xs [.int .i64 o, .int .i64 d, .int .i64 t, .int .i64 s] v' := by
  by_cases hnm : n = m
  · subst hnm
    obtain ⟨k, rfl⟩ : ∃ k, n = k + 1 := ⟨n - 1, by omega⟩
    exact add_full_smp o d t s h (by omega) hc
  · exact add_room_smp o d t s h (by have := h.le; omega) h64 hc

set_option maxRecDepth 100000 in
set_option maxHeartbeats 1000000 in
theorem all_smp {w : World} {base b m c n : Nat} {v : Value} {xs : List Value} (h : Rg_smp w base b m c n v xs) (h64 : m ≤ 64) :
    Calls Try.prog 45 #[.pointer (some ⟨b, 0, none⟩)] w fun e w' => e = .returned (.slice (some ⟨w.heap.size, 0, none⟩) n n) ∧ w'.ownsRow w.heap.size 31 4 (.slice (some ⟨w.heap.size, 0, none⟩) n n) n xs ∧ Below w.heap.size w w' := by
  obtain ⟨i0, hi0, hz0, hz1, hz2⟩ := info_parts rinfo_smp
  obtain ⟨A, cp, hv, _, _⟩ := own_len h.row
  subst hv
  have f1 := h.facts.2.1
  have hn : n ≤ 64 := by have := h.le; omega
  have H := Lib.hid h
  clear h
  go_enter Try.func45, Try.ntmps45
  go_wp2_with (first
    | (at_make; refine wpList_make_full _ rfl (.tmp 10) (.tmp 10) 40 rfl w.heap.size 31 i0 (.agg #[.int .i64 0, .int .i64 0, .int .i64 0, .int .i64 0]) 4 Try.underlying40 hi0 hz0 hz1 .i64 .i64 _ _ n rfl rfl rfl rfl (by rw [hz2]; omega) (by unfold maxLen; omega) (Nat.le_refl _) ?_; intro w1 ho hg; have hb1 : Below w.heap.size w w1 := Below.grown (Below.refl _ _) hg (Nat.le_refl _) (by simp); have f1' := (H.out.below hb1 (Nat.le_refl _)).facts.2.1; obtain ⟨cur, g1, g2⟩ := own_new ho; have G := Lib.hid (And.intro hb1 (And.intro (H.out.below hb1 (Nat.le_refl _)) (And.intro g1 g2))); clear ho hg hb1 g1 g2)
    | (refine wpList_copy_k (o := ⟨some 17, _, _, _, _, _⟩) rfl (.tmp 12) (.tmp 16) 40 40 rfl 31 4 Try.underlying40 rsize_smp w.heap.size 0 n n n cp A rfl rfl cur xs 31 G.out.2.2.1 n (by simp) G.out.2.1.row.1 (fun h0 => own_src G.out.2.1.row h0) (by rw [G.out.2.1.row.1, G.out.2.2.2]; omega) G.out.2.1.one ?_; intro w2 hw2; have E2 := Lib.hid hw2; clear hw2 f1'))
  go_ret
  refine ⟨rfl, ?_, ?_⟩
  · rw [E2.out]; exact own_copied G.out.2.2.1 G.out.2.2.2 G.out.2.1.row.1 (Nat.le_refl _) (by unfold maxLen; omega)
  · rw [E2.out]; exact Below.setRow' G.out.1 (Nat.le_refl _) _
theorem all_nil_smp (w : World) : Calls Try.prog 45 #[.pointer none] w fun e w' => e = .returned (.slice none 0 0) ∧ w = w' := by
  go_enter Try.func45, Try.ntmps45
  go_wp2
  go_ret
  exact ⟨rfl, rfl⟩

end Go.Proofs.Ytcmmhgalnfleoaa
