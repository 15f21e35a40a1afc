/- ConfOrder's walk. -/
import Derived.Test.YtlbabhddjdhalaaDoorLaws0
import Derived.Test.YtlbabhddjdhalaaDoorWback
import Derived.Test.YtlbabhddjdhalaaDoorSets3
import Derived.Deep.AppendLies
import Derived.Deep.RegionHeld
import Derived.Lib.QuietBelow
import Derived.BigQuiet
import Derived.IntWalk
namespace Go.Proofs.YtlbabhddjdhalaaDoor
open Go.RowKit Go.Proofs.Lx

theorem rev_take {S : List Int} {j k : Nat} (h : S.length = j + 1 + k) : S.reverse.take (k + 1) = S.reverse.take k ++ [S[j]'(by omega)] := by
  rw [List.take_succ_eq_append_getElem (by simp; omega)]
  congr 2
  rw [List.getElem_reverse]
  congr 1
  omega
theorem cell_alloc {w : World} {p : Addr} {v : Value} {o : Obj} (h : w.cell? p = some v) : (w.alloc o).cell? p = some v := (World.cell?_alloc_some w p o (by rw [h]; rfl)).trans h
theorem row_snocN {w : World} {base n : Nat} {v : Value} {xs : List Int} {x : Int} (hn : xs.length = n) (h : w.ownsRow base 3 1 v (n + 1) (xs.map (Value.int .i64) ++ [.int .i64 x])) : Row w base v (xs ++ [x]) := by
  subst hn; exact row_snoc h
theorem below_setCell {B : Nat} {w w' : World} {o : Nat} {v : Value} (h : Below B w w') : Below B w (w'.setCell ⟨B, o, none⟩ v) :=
  ⟨h.os, h.tape, h.output, by simpa [World.setCell] using h.size, fun k hk => (Below.heap_setCell _ _ _ _ (by simp; omega)).trans (h.block k hk)⟩
/-- What an append to a row above block gd leaves as it was. -/
theorem row_grown {wd w1 w2 : World} {gd N ca g o j : Nat} {D : Option Addr} {k dk : Nat} {xs : List Value} {O : Obj} {cs : Array Value} {t : TypeId} {a0 : Nat} {y : Int}
    (hr : wd.ownsRow (gd + 1) 3 1 (.slice D k dk) k xs) (hb : wd.heap[gd]? = some (.cells cs t (0, 0))) (hB : Below gd w1 wd) (ha : a0 < gd) (hg : g < gd)
    (hgr : (wd.alloc O).grownBy w2 (Value.slice D k dk).ownBlock) : w2.heap[gd]? = some (.cells cs t (0, 0)) ∧ Below gd w1 w2 ∧
      ((wd.alloc O).cell? ⟨a0, 0, none⟩ = some (.slice (some ⟨g, o, none⟩) N ca) → (wd.alloc O).cell? ⟨g, o + j, none⟩ = some (.int .i64 y) → w2.cell? ⟨a0, 0, none⟩ = some (.slice (some ⟨g, o, none⟩) N ca) ∧ w2.cell? ⟨g, o + j, none⟩ = some (.int .i64 y)) := by
  have hlt : gd < wd.heap.size := (Array.getElem?_eq_some_iff.1 hb).1
  have key : ∀ i, i ≤ gd → w2.heap[i]? = wd.heap[i]? := fun i hi => by
    rw [hgr.block i (by simp; omega) (fun e => by have := (World.ownsRow.lt hr i e.symm).1; omega), heap_alloc_old _ _ (by omega)]
  refine ⟨(key gd (Nat.le_refl _)).trans hb, ⟨hgr.os.trans hB.os, hgr.tape.trans hB.tape, hgr.output.trans hB.output, ?_, fun i hi => (key i (by omega)).trans (hB.block i hi)⟩, fun h1 h2 => ?_⟩
  · have := hgr.size
    have := hB.size
    simp at *; omega
  · constructor
    · refine (hgr.cell_far _ (by simp; omega) (fun e => ?_)).trans h1
      have := (World.ownsRow.lt hr _ e.symm).1
      simp at this; omega
    · refine (hgr.cell_far _ (by simp; omega) (fun e => ?_)).trans h2
      have := (World.ownsRow.lt hr _ e.symm).1
      simp at this; omega

set_option maxRecDepth 100000 in
set_option maxHeartbeats 4000000 in
theorem walk_confOrder (v0 : Value) (w : World) (w0 : CfgIn w v0) (hm : Mx w) (ht : Pow w) :
    Calls Tryd.prog 9 #[v0] w fun e w' => e = .returned (.bool true) ∧ Below w.heap.size w w' := by
  obtain ⟨i0, hi, hz0, hz1, hz2⟩ := info_parts Tryd.info3
  obtain ⟨u0, a, rfl, I0, s0, q0, l0, m0, d0, z0, n0⟩ := w0
  obtain ⟨A, ca, rfl, hca⟩ := I0.len
  clear s0 q0 l0 m0 d0 z0
  obtain ⟨W, hW⟩ : ∃ W, W = w.alloc (.cells #[.slice A a.S.length ca, .int .i64 a.q, .int .i64 a.l, .int .i64 a.m, .int .i64 a.d, .int .i64 a.s] 24) := ⟨_, rfl⟩
  have hbW : Below w.heap.size w W := by rw [hW]; exact below_alloc _ _
  have B0 : Box W w.heap.size (.slice A a.S.length ca) a := by rw [hW]; exact Box.new _ _ _
  have GO : ∀ u, Below W.heap.size W u → Below w.heap.size w u := fun u hu => hbW.trans (hu.mono hbW.size)
  have HGO := Lib.hid GO
  have HA : Hid (∀ u, Below W.heap.size W u → Box u w.heap.size (.slice A a.S.length ca) a) := fun u hu => B0.below hu B0.lt
  have KL : Hid (∀ u, Below W.heap.size W u → Calls Tryd.prog 10 #[] u fun e w' => e = .returned (.bool true) ∧ Below u.heap.size u w') := fun u hu =>
    alive_any u (hm.below (GO u hu) (Nat.le_refl _))
  have KC : Hid (∀ u, Below W.heap.size W u → Calls Tryd.prog 13 #[cval (.slice A a.S.length ca) a] u fun e w' => e = .returned (.int .i64 (checkOf a : Nat)) ∧ Below W.heap.size W w') := fun u hu =>
    (check_all _ a u (I0.below (GO u hu) (Nat.le_refl _))).mono fun e w' h => ⟨h.1, hu.trans (h.2.mono hu.size)⟩
  have HI : Hid (∀ u, Below W.heap.size W u → Ints u (.slice A a.S.length ca) a.S) := fun u hu => I0.below (GO u hu) (Nat.le_refl _)
  have HM : Hid (∀ u, Below W.heap.size W u → Mx u) := fun u hu => hm.below (GO u hu) (Nat.le_refl _)
  have HP : Hid (∀ u, Below W.heap.size W u → Pow u) := fun u hu => ht.below (GO u hu) (Nat.le_refl _)
  have HWW : Hid (Below W.heap.size W W) := Below.refl _ _
  have HWB : Hid (∀ u, Below W.heap.size W u → u.heap.size = u.heap.size ∧ W.heap.size ≤ u.heap.size) := fun u hu => ⟨rfl, hu.size⟩
  have HGW : Hid (w.heap.size < W.heap.size) := B0.lt
  have HSV : Hid (∀ A' g o, A = A' → A' = some ⟨g, o, none⟩ → 0 < a.S.length → g < w.heap.size) := fun A' g o e1 e2 h0 => by
    obtain ⟨g', o', e3, h3, _⟩ := I0.at_ 0 h0
    rw [e1, e2] at e3
    injection e3 with e3
    injection e3 with e3
    subst e3; exact h3
  unfold cval at KC ⊢
  obtain ⟨N, hN⟩ : ∃ N, N = a.S.length := ⟨_, rfl⟩
  obtain ⟨x, hx⟩ : ∃ x, x = checkOf a := ⟨_, rfl⟩
  have HX := Lib.hid hx
  have HN := Lib.hid hN
  rw [← hN] at HA KC n0 hca hW HI HSV ⊢
  rw [← hx] at KC
  clear GO hbW B0 I0 hm ht hN hx
  unfold maxLen at n0
  by_cases c1 : (50 : Int) < (N : Int)
  · go_enter Tryd.func9, Tryd.ntmps9
    go_wp2_with (rw [← hW]; go_at_call 10; refine (KL.out W HWW.out).mono ?_; rintro e w1 ⟨rfl, hb1⟩)
    go_ret
    exact ⟨rfl, HGO.out _ hb1⟩
  by_cases hx0 : x = 0
  case neg =>
    have t1 : ((x : Int) != 0) = true := by simp; omega
    go_enter Tryd.func9, Tryd.ntmps9
    go_wp2_with fail
    rw [← hW]
    refine (KC.out W HWW.out).mono ?_
    rintro e w1 ⟨rfl, hb1⟩
    go_wp2_with fail
    refine (KL.out w1 hb1).mono ?_
    rintro e w2 ⟨rfl, hb2⟩
    go_wp2
    go_ret
    exact ⟨rfl, HGO.out _ (hb1.trans (hb2.mono hb1.size))⟩
  case pos =>
    subst hx0
    have hchk : checkOf a = 0 := HX.out.symm
    have HRV := Lib.hid (check_rev hchk)
    have HRE := Lib.hid (rev_eq hchk)
    have hpos : 0 < N := by rw [HN.out]; exact List.length_pos_iff.2 (check_zero hchk).1
    have h16 : N ≤ 16 := by rw [HN.out]; exact (check_small hchk).1
    have t0 : ((N : Int) == 0) = false := by simp; omega
    clear hchk
    go_enter Tryd.func9, Tryd.ntmps9
    go_wp2_with fail
    rw [← hW]
    refine (KC.out W HWW.out).mono ?_
    rintro e w1 ⟨rfl, hb1⟩
    obtain ⟨r0, r1, r2, r3, r4, r5⟩ := (HA.out w1 hb1).cells
    have lt1 := (HA.out w1 hb1).lt
    go_wp2_with fail
    obtain ⟨V, hV⟩ : ∃ V, V = w1.alloc (.cells #[.slice none 0 0, .int .i64 a.q, .int .i64 a.l, .int .i64 a.m, .int .i64 a.d, .int .i64 a.s] 24) := ⟨_, rfl⟩
    have HV0 : Hid (Cell V (w1.heap.size + 1) w1.heap.size ⟨[], a.q, a.l, a.m, a.d, a.s⟩) := by
      show Cell _ _ _ _
      rw [hV]; exact ⟨_, heap_alloc_new _ _, Row.nil _ _⟩
    have HV1 : Hid (Below w1.heap.size w1 V) := by show Below _ _ _; rw [hV]; exact below_alloc _ _
    rw [← hV]
    clear hV r0 r1 r2 r3 r4 r5
    have HGD : Hid (W.heap.size ≤ w1.heap.size) := hb1.size
    obtain ⟨gd, hgd⟩ : ∃ gd, gd = w1.heap.size := ⟨_, rfl⟩
    rw [← hgd] at HV0 HV1 HGD lt1 ⊢
    have HGD1 := Lib.hid hgd
    clear hgd
    have HTW : Hid (∀ u, Below gd w1 u → Below W.heap.size W u) := fun u hu => hb1.trans (hu.mono HGD.out)
    go_loopw [40] (fun i wr => ∃ k : Nat, k ≤ N ∧ i = .int .i64 k ∧ Hid (Cell wr (gd + 1) gd ⟨a.S.reverse.take k, a.q, a.l, a.m, a.d, a.s⟩) ∧ Hid (Below gd w1 wr)) (fun i _ => N - (intOf i).toNat)
    case atStart => exact ⟨0, Nat.zero_le _, rfl, (by simpa using HV0.out : Cell V (gd + 1) gd ⟨a.S.reverse.take 0, a.q, a.l, a.m, a.d, a.s⟩), HV1.out⟩
    case round =>
      obtain ⟨k, hk, rfl, HC, HB⟩ := hrel
      by_cases hkN : k < N
      · obtain ⟨j, hj⟩ : ∃ j, N = j + 1 + k := ⟨N - 1 - k, by omega⟩
        have HXT := Lib.hid (rev_take (S := a.S) (j := j) (k := k) (by rw [← HN.out]; exact hj))
        obtain ⟨D, dk, hdk, hb, hrow, c0, _, _, _, _, _, hf⟩ := HC.out.facts
        have hxl : (a.S.reverse.take k).length = k := by simp; have := HN.out; omega
        simp only at hdk hb hrow c0
        obtain ⟨xs, hxs⟩ : ∃ xs, xs = a.S.reverse.take k := ⟨_, rfl⟩
        rw [← hxs] at hdk hb hrow c0 hxl HXT
        rw [hxl] at hdk hb hrow c0
        have HXL := Lib.hid hxl
        have HWr := Lib.hid (HTW.out wr HB.out)
        obtain ⟨r0, _⟩ := (HA.out wr HWr.out).cells
        have hjx : j < a.S.length := by rw [← HN.out]; omega
        obtain ⟨g, o, rfl, hg, hcell⟩ := (HI.out wr HWr.out).at_ j hjx
        obtain ⟨y, hy⟩ : ∃ y, y = a.S[j] := ⟨_, rfl⟩
        rw [← hy] at hcell HXT
        have hgl : g < w.heap.size := HSV.out _ g o rfl rfl (by omega)
        have hgw := HGW.out
        have hgd2 := HGD.out
        have HNE : Hid ((⟨w.heap.size, 0, none⟩ : Addr).block ≠ gd ∧ (⟨g, o + j, none⟩ : Addr).block ≠ gd) := ⟨by simp; omega, by simp; omega⟩
        obtain ⟨wd, hwd⟩ : ∃ wd, wd = wr.drew := ⟨_, rfl⟩
        have HOW : Hid (wd.ownsRow (gd + 1) 3 1 (.slice D k dk) k (xs.map (Value.int .i64))) := by
          rw [hwd]
          have h3 : wr.ownsRow (gd + 1) 3 1 (.slice D k dk) xs.length (xs.map (Value.int .i64)) := hrow
          rw [hxl] at h3; exact h3
        have hbd : wd.heap[gd]? = some (.cells #[.slice D k dk, .int .i64 a.q, .int .i64 a.l, .int .i64 a.m, .int .i64 a.d, .int .i64 a.s] 24 (0, 0)) := by rw [hwd]; exact hb
        have HBd : Hid (Below gd w1 wd) := by show Below _ _ _; rw [hwd]; exact ⟨HB.out.os, HB.out.tape, HB.out.output, HB.out.size, HB.out.block⟩
        have HSD : Hid (wd.cell? ⟨w.heap.size, 0, none⟩ = some (.slice (some ⟨g, o, none⟩) N ca) ∧ wd.cell? ⟨g, o + j, none⟩ = some (.int .i64 y)) := by rw [hwd]; exact ⟨r0, hcell⟩
        have hdlt : gd < wd.heap.size := (Array.getElem?_eq_some_iff.1 hbd).1
        have HGR := Lib.hid (fun (w2 : World) (h : (wd.alloc (.cells #[.int .i64 y] 3)).grownBy w2 (Value.slice D k dk).ownBlock) => row_grown (N := N) (ca := ca) (o := o) (j := j) (y := y) HOW.out hbd HBd.out (show w.heap.size < gd by omega) (show g < gd by omega) h)
        have hD0 : wd.cell? ⟨gd, 0, none⟩ = some (.slice D k dk) := Lib.cell_of_heap hbd 0
        have hD1 : (wd.alloc (.cells #[.int .i64 y] 3)).cell? ⟨gd, 0, none⟩ = some (.slice D k dk) := cell_alloc hD0
        have e1 : IntKind.i64.wrap ((N : Int) - 1) = (N : Int) - 1 := IntWalk.i64_in _ (by omega)
        have e2 : IntKind.i64.wrap ((N : Int) - 1 - (k : Int)) = (j : Int) := by rw [show (N : Int) - 1 - (k : Int) = j by omega]; exact IntWalk.i64_in _ (by omega)
        have j0 : (0 : Int) ≤ (j : Int) := by omega
        have j1 : (j : Int) < (N : Int) := by omega
        clear hj hy hxs hb hrow hf hjx hxl HC HB hbd
        go_wp2_with fail
        refine wp_region_held_drew (S := (fun W' => W'.cell? ⟨w.heap.size, 0, none⟩ = some (.slice (some ⟨g, o, none⟩) N ca) ∧ W'.cell? ⟨g, o + j, none⟩ = some (.int .i64 y))) (by kernel_rfl) (by rw [← hwd]; exact HSD.out) (fun hHeld => ?_)
        rw [← hwd] at hHeld ⊢
        clear hwd
        refine wpAnyH_take (i := 0) (v := ?_) rfl (by kernel_rfl) (by kernel_rfl) (by kernel_rfl) (fun _ _ _ h => h) (Or.inl ⟨by rfl, ?_⟩) (by assumption) ?_
        rotate_left
        · (intro w hSw; (try dsimp only at hSw); go_simp; try with_reducible rfl)
        refine wpAnyH_take (i := 2) (v := ?_) rfl (by kernel_rfl) (by kernel_rfl) (by kernel_rfl) (fun _ _ _ h => h) (Or.inl ⟨by rfl, ?_⟩) (by assumption) ?_
        rotate_left
        · (intro w hSw; (try dsimp only at hSw); go_simp; try with_reducible rfl)
        refine wpAnyH_take (i := 4) (v := ?_) rfl (by kernel_rfl) (by kernel_rfl) (by kernel_rfl) (fun _ _ _ h => h) (Or.inl ⟨by rfl, ?_⟩) (by assumption) ?_
        rotate_left
        · (intro w hSw; (try dsimp only at hSw); go_simp; try with_reducible rfl)
        refine wpAnyH_take (i := 3) (v := ?_) rfl (by kernel_rfl) (by kernel_rfl) (by kernel_rfl) (fun _ _ _ h => h) (Or.inl ⟨by rfl, ?_⟩) (by assumption) ?_
        rotate_left
        · (intro w hSw; (try dsimp only at hSw); go_simp; try with_reducible rfl)
        refine wpAnyH_take (i := 5) (v := ?_) rfl (by kernel_rfl) (by kernel_rfl) (by kernel_rfl) (fun _ _ _ h => h) (Or.inl ⟨by rfl, ?_⟩) (by assumption) ?_
        rotate_left
        · (intro w hSw; (try dsimp only at hSw); go_simp; try with_reducible rfl)
        refine wpAnyH_take (i := 6) (v := ?_) rfl (by kernel_rfl) (by kernel_rfl) (by kernel_rfl) (fun _ _ _ h => h) (Or.inl ⟨by rfl, ?_⟩) (by assumption) ?_
        rotate_left
        · (intro w hSw; (try dsimp only at hSw); go_simp; try with_reducible rfl)
        refine wpAnyH_take (i := 7) (v := ?_) rfl (by kernel_rfl) (by kernel_rfl) (by kernel_rfl) (fun _ _ _ h => h) (Or.inl ⟨by rfl, ?_⟩) (by assumption) ?_
        rotate_left
        · (intro w hSw; (try dsimp only at hSw); go_simp; try with_reducible rfl)
        refine wpAnyH_take (i := 8) (v := ?_) rfl (by kernel_rfl) (by kernel_rfl) (by kernel_rfl) (fun _ _ _ h => h) (Or.inl ⟨by rfl, ?_⟩) (by assumption) ?_
        rotate_left
        · (intro w hSw; (try dsimp only at hSw); go_simp; try with_reducible rfl)
        refine wpAnyH_take (i := 9) (v := ?_) rfl (by kernel_rfl) (by kernel_rfl) (by kernel_rfl) (fun _ _ _ h => h) (Or.inl ⟨by rfl, ?_⟩) (by assumption) ?_
        rotate_left
        · (intro w hSw; (try dsimp only at hSw); go_simp; try with_reducible rfl)
        refine wpAnyH_take (i := 10) (v := ?_) rfl (by kernel_rfl) (by kernel_rfl) (by kernel_rfl) (fun _ _ _ h => h) (Or.inl ⟨by rfl, ?_⟩) (by assumption) ?_
        rotate_left
        · (intro w hSw; (try dsimp only at hSw); go_simp; try with_reducible rfl)
        refine wpAnyH_take (i := 11) (v := ?_) rfl (by kernel_rfl) (by kernel_rfl) (by kernel_rfl) (fun _ _ _ h => h) (Or.inl ⟨by rfl, ?_⟩) (by assumption) ?_
        rotate_left
        · (intro w hSw; (try dsimp only at hSw); go_simp; try with_reducible rfl)
        refine wpAnyH_ready (rs := [1, 12]) (by kernel_rfl) (by simp) ?_
        refine AllReadyH.cons rfl (fun K hK => ?_) <| AllReadyH.cons rfl (fun K hK => ?_) <| AllReadyH.nil
        · go_simp
          refine hK.out _ _ hHeld (fun hHeld => ?_)
          clear hK K
          refine wpAnyH_ready (rs := [12]) (by kernel_rfl) (by simp) ?_
          refine AllReadyH.cons rfl (fun K hK => ?_) AllReadyH.nil
          go_simp
          have HOB : Hid ((wd.alloc (.cells #[.int .i64 y] 3)).ownsRow (gd + 1) 3 1 (.slice D k dk) k (xs.map (Value.int .i64))) := World.ownsRow.alloc HOW.out _
          have HNB : Hid (∀ j u, [Value.int .i64 y][j]? = some u → (wd.alloc (.cells #[.int .i64 y] 3)).cell? ((⟨wd.heap.size, 0, none⟩ : Addr).add j) = some u) := cell_one_new _ _ _
          have HAS : Hid ((wd.alloc (.cells #[.int .i64 y] 3)).cell? ⟨w.heap.size, 0, none⟩ = some (.slice (some ⟨g, o, none⟩) N ca) ∧ (wd.alloc (.cells #[.int .i64 y] 3)).cell? ⟨g, o + j, none⟩ = some (.int .i64 y)) := ⟨cell_alloc HSD.out.1, cell_alloc HSD.out.2⟩
          refine hK.out _ _ HAS.out (fun hHeld => ?_)
          clear hK K

          refine wpAnyH_ready (rs := [13]) (by kernel_rfl) (by simp) ?_
          refine AllReadyH.cons rfl (fun K hK => ?_) AllReadyH.nil
          refine step_append_lies _ rfl (.tmp 44) (.tmp 55) 22 rfl (gd + 1) 3 i0 (.int .i64 0) 1 8 Tryd.underlying22 hi hz0 hz1 hz2 rfl (by decide) (.slice D k dk) k (xs.map (Value.int .i64)) (by go_simp) HOB.out ⟨wd.heap.size, 0, none⟩ 1 1 [.int .i64 y] (by go_simp) rfl HNB.out (one_int _) (by decide) (by unfold maxLen; omega) (by omega) (by simp; omega) (wd.heap.size + 1) (by simp) ?_
          intro g2 cap2 w2 hown2 hgrow2 _ _
          have hgr := HGR.out _ hgrow2
          have hb2 := hgr.1
          have HR2 := Lib.hid (row_snocN HXL.out hown2)
          have HB2 := Lib.hid hgr.2.1
          have HS2 := Lib.hid hgr.2.2
          clear hown2 hgrow2 hgr
          have d0 : w2.cell? ⟨gd, 0, none⟩ = some (.slice D k dk) := Lib.cell_of_heap hb2 0
          have f0 : w2.frozen? ⟨gd, 0, none⟩ = false := Lib.frozen_of_heap hb2 0
          refine hK.out _ _ (HS2.out HAS.out.1 HAS.out.2) (fun hHeld => ?_)
          clear hK K
          refine wpAnyH_take (i := 14) (v := ?_) rfl (by kernel_rfl) (by kernel_rfl) (by kernel_rfl) (fun _ _ _ h => h) (Or.inl ⟨by rfl, ?_⟩) (by assumption) ?_
          rotate_left
          · (intro w hSw; (try dsimp only at hSw); go_simp; try with_reducible rfl)
          refine wpAnyH_ready (rs := [15]) (by kernel_rfl) (by simp) ?_
          refine AllReadyH.cons rfl (fun K hK => ?_) AllReadyH.nil
          go_simp
          have HF2 : Hid (∀ p, p.block ≠ gd → ∀ v, w2.cell? p = some v → (w2.setCell ⟨gd, 0, none⟩ (.slice (some ⟨g2, 0, none⟩) (k + 1) cap2)).cell? p = some v) := fun p hp v hv => (World.cell?_setCell_far _ _ _ _ (Ne.symm hp)).trans hv
          refine hK.out _ _ ⟨HF2.out _ HNE.out.1 _ hHeld.1, HF2.out _ HNE.out.2 _ hHeld.2⟩ (fun hHeld2 => ?_)
          clear hK K
          refine wpAnyH_done (by kernel_rfl) ?_ _
          go_simp
          have HCN : Hid (Cell (w2.setCell ⟨gd, 0, none⟩ (.slice (some ⟨g2, 0, none⟩) (k + 1) cap2)) (gd + 1) gd ⟨xs ++ [y], a.q, a.l, a.m, a.d, a.s⟩) := ⟨_, by rw [heap_setCell_same _ _ _ _ _ _ hb2]; rfl, row_set HR2.out (by omega)⟩
          have HBN : Hid (Below gd w1 (w2.setCell ⟨gd, 0, none⟩ (.slice (some ⟨g2, 0, none⟩) (k + 1) cap2))) := below_setCell HB2.out
          clear hb2 d0 f0 HR2 HB2 HS2 HF2
          go_wp2
          go_roundw
          case rel => exact ⟨k + 1, by omega, by go_num, by rw [HXT.out]; exact HCN.out, HBN.out⟩
          case measure => simp [intOf]; omega
        · skip
          go_simp
          have HOB : Hid ((wd.alloc (.cells #[.int .i64 y] 3)).ownsRow (gd + 1) 3 1 (.slice D k dk) k (xs.map (Value.int .i64))) := World.ownsRow.alloc HOW.out _
          have HNB : Hid (∀ j u, [Value.int .i64 y][j]? = some u → (wd.alloc (.cells #[.int .i64 y] 3)).cell? ((⟨wd.heap.size, 0, none⟩ : Addr).add j) = some u) := cell_one_new _ _ _
          have HAS : Hid ((wd.alloc (.cells #[.int .i64 y] 3)).cell? ⟨w.heap.size, 0, none⟩ = some (.slice (some ⟨g, o, none⟩) N ca) ∧ (wd.alloc (.cells #[.int .i64 y] 3)).cell? ⟨g, o + j, none⟩ = some (.int .i64 y)) := ⟨cell_alloc HSD.out.1, cell_alloc HSD.out.2⟩
          refine hK.out _ _ HAS.out (fun hHeld => ?_)
          clear hK K
          refine wpAnyH_ready (rs := [1]) (by kernel_rfl) (by simp) ?_
          refine AllReadyH.cons rfl (fun K hK => ?_) AllReadyH.nil
          go_simp
          refine hK.out _ _ hHeld (fun hHeld => ?_)
          clear hK K
          refine wpAnyH_ready (rs := [13]) (by kernel_rfl) (by simp) ?_
          refine AllReadyH.cons rfl (fun K hK => ?_) AllReadyH.nil
          refine step_append_lies _ rfl (.tmp 44) (.tmp 55) 22 rfl (gd + 1) 3 i0 (.int .i64 0) 1 8 Tryd.underlying22 hi hz0 hz1 hz2 rfl (by decide) (.slice D k dk) k (xs.map (Value.int .i64)) (by go_simp) HOB.out ⟨wd.heap.size, 0, none⟩ 1 1 [.int .i64 y] (by go_simp) rfl HNB.out (one_int _) (by decide) (by unfold maxLen; omega) (by omega) (by simp; omega) (wd.heap.size + 1) (by simp) ?_
          intro g2 cap2 w2 hown2 hgrow2 _ _
          have hgr := HGR.out _ hgrow2
          have hb2 := hgr.1
          have HR2 := Lib.hid (row_snocN HXL.out hown2)
          have HB2 := Lib.hid hgr.2.1
          have HS2 := Lib.hid hgr.2.2
          clear hown2 hgrow2 hgr
          have d0 : w2.cell? ⟨gd, 0, none⟩ = some (.slice D k dk) := Lib.cell_of_heap hb2 0
          have f0 : w2.frozen? ⟨gd, 0, none⟩ = false := Lib.frozen_of_heap hb2 0
          refine hK.out _ _ (HS2.out HAS.out.1 HAS.out.2) (fun hHeld => ?_)
          clear hK K
          refine wpAnyH_take (i := 14) (v := ?_) rfl (by kernel_rfl) (by kernel_rfl) (by kernel_rfl) (fun _ _ _ h => h) (Or.inl ⟨by rfl, ?_⟩) (by assumption) ?_
          rotate_left
          · (intro w hSw; (try dsimp only at hSw); go_simp; try with_reducible rfl)
          refine wpAnyH_ready (rs := [15]) (by kernel_rfl) (by simp) ?_
          refine AllReadyH.cons rfl (fun K hK => ?_) AllReadyH.nil
          go_simp
          have HF2 : Hid (∀ p, p.block ≠ gd → ∀ v, w2.cell? p = some v → (w2.setCell ⟨gd, 0, none⟩ (.slice (some ⟨g2, 0, none⟩) (k + 1) cap2)).cell? p = some v) := fun p hp v hv => (World.cell?_setCell_far _ _ _ _ (Ne.symm hp)).trans hv
          refine hK.out _ _ ⟨HF2.out _ HNE.out.1 _ hHeld.1, HF2.out _ HNE.out.2 _ hHeld.2⟩ (fun hHeld2 => ?_)
          clear hK K
          refine wpAnyH_done (by kernel_rfl) ?_ _
          go_simp
          have HCN : Hid (Cell (w2.setCell ⟨gd, 0, none⟩ (.slice (some ⟨g2, 0, none⟩) (k + 1) cap2)) (gd + 1) gd ⟨xs ++ [y], a.q, a.l, a.m, a.d, a.s⟩) := ⟨_, by rw [heap_setCell_same _ _ _ _ _ _ hb2]; rfl, row_set HR2.out (by omega)⟩
          have HBN : Hid (Below gd w1 (w2.setCell ⟨gd, 0, none⟩ (.slice (some ⟨g2, 0, none⟩) (k + 1) cap2))) := below_setCell HB2.out
          clear hb2 d0 f0 HR2 HB2 HS2 HF2
          go_wp2
          go_roundw
          case rel => exact ⟨k + 1, by omega, by go_num, by rw [HXT.out]; exact HCN.out, HBN.out⟩
          case measure => simp [intOf]; omega

      · have hcx := HC.out
        rw [List.take_of_length_le (by simp; have := HN.out; omega)] at hcx
        replace hcx : Cell wr (gd + 1) gd (rev a) := hcx
        obtain ⟨D, dk, hdk, hb, hrow, hrest⟩ := hcx.facts
        clear hrest
        have hlen : (rev a).S.length = N := by rw [HN.out]; simp [rev]
        have HWr := Lib.hid (HTW.out wr HB.out)
        have BD : Box wr gd (.slice D (rev a).S.length dk) (rev a) := hb
        have KP := Lib.hid (print_any _ (rev a) wr hrow.ints (CfgR.of HRV.out) (HP.out wr HWr.out))
        have KT := Lib.hid (fun u hu => parse_text HRV.out u (HM.out u hu))
        rw [HRV.out] at KP
        have HTE : Hid (decide (rev a = a) = ((N : Int) == 1)) := by
          show _ = _
          rw [Bool.eq_iff_iff]
          simp only [decide_eq_true_eq, beq_iff_eq]
          rw [HRE.out, ← HN.out]
          omega
        have KS := Lib.hid (fun u v1 v2 h1 h2 => same_any v1 v2 (rev a) (rev a) u h1 h2 (by rw [hlen]; omega) (by rw [hlen]; omega))
        have KU := Lib.hid (fun u v1 v2 h1 h2 => same_any v1 v2 (rev a) a u h1 h2 (by rw [hlen]; omega) (by rw [← HN.out]; omega))
        have HRI := Lib.hid hrow.ints
        rw [decide_eq_true rfl] at KS
        rw [HTE.out] at KU
        obtain ⟨tb, htb⟩ : ∃ t, t = textZ (rev a) := ⟨_, rfl⟩
        rw [hlen] at BD KP KT HRI
        rw [← htb] at KP KT
        have HBD := Lib.hid BD
        unfold cval at KP KT KS KU
        simp only [rev] at KP KT KS KU
        obtain ⟨r, hr⟩ : ∃ r, r = ((N : Int) == 1) := ⟨_, rfl⟩
        have tE : ((N : Int) == 1) = r := hr.symm
        rw [← hr] at KU
        obtain ⟨c0, c1, c2, c3, c4, c5⟩ := BD.cells
        simp only [rev] at c1 c2 c3 c4 c5
        clear hcx hb hrow hlen BD htb hr HTE HC HRE
        have HBX := Lib.hid (fun u (h : Below W.heap.size W u) => HA.out u h)
        obtain rfl : k = N := by omega
        clear hkN hk
        go_wp2_with fail
        refine KP.out.mono ?_
        rintro e w3 ⟨rfl, hb3⟩
        have hW3 : Below W.heap.size W w3 := HWr.out.trans (hb3.mono HWr.out.size)
        go_wp2_with fail
        refine (KT.out w3 hW3).mono ?_
        rintro e w4 ⟨E, ce, rfl, hi4, hb4⟩
        have hW4 : Below W.heap.size W w4 := hW3.trans (hb4.mono hW3.size)
        have HD4 := Lib.hid ((HBD.out.below hb3 HBD.out.lt).below hb4 (Nat.lt_of_lt_of_le HBD.out.lt hb3.size))
        have HR4 := Lib.hid ((HRI.out.below hb3 (Nat.le_refl _)).below hb4 (Nat.le_refl _))
        have HI4 := Lib.hid hi4
        clear hb3 hb4 hi4 c0 c1 c2 c3 c4 c5
        obtain ⟨X, hX⟩ : ∃ X, X = w4.alloc (.cells #[.slice E k ce, .int .i64 a.q, .int .i64 a.l, .int .i64 a.m, .int .i64 a.d, .int .i64 a.s] 24) := ⟨_, rfl⟩
        have HX4 : Hid (Below w4.heap.size w4 X) := by show Below _ _ _; rw [hX]; exact below_alloc _ _
        have HXW : Hid (Below W.heap.size W X) := hW4.trans (HX4.out.mono hW4.size)
        have HXX : Hid (Box X w4.heap.size (.slice E k ce) a) := by show Box _ _ _ _; rw [hX]; exact Box.new _ _ _
        obtain ⟨a0, a1, a2, a3, a4, a5⟩ := (HA.out X HXW.out).cells
        obtain ⟨d0, d1, d2, d3, d4, d5⟩ := (HD4.out.below HX4.out HD4.out.lt).cells
        obtain ⟨x0, x1, x2, x3, x4, x5⟩ := HXX.out.cells
        simp only [rev] at d1 d2 d3 d4 d5
        have m10 := fun d os => cell_regrown a0 d os
        have m11 := fun d os => cell_regrown a1 d os
        have m12 := fun d os => cell_regrown a2 d os
        have m13 := fun d os => cell_regrown a3 d os
        have m14 := fun d os => cell_regrown a4 d os
        have m15 := fun d os => cell_regrown a5 d os
        have m20 := fun d os => cell_regrown d0 d os
        have m21 := fun d os => cell_regrown d1 d os
        have m22 := fun d os => cell_regrown d2 d os
        have m23 := fun d os => cell_regrown d3 d os
        have m24 := fun d os => cell_regrown d4 d os
        have m25 := fun d os => cell_regrown d5 d os
        have m30 := fun d os => cell_regrown x0 d os
        have m31 := fun d os => cell_regrown x1 d os
        have m32 := fun d os => cell_regrown x2 d os
        have m33 := fun d os => cell_regrown x3 d os
        have m34 := fun d os => cell_regrown x4 d os
        have m35 := fun d os => cell_regrown x5 d os
        have iE := HI4.out.below HX4.out (Nat.le_refl _)
        have iD := HR4.out.below HX4.out (Nat.le_refl _)
        have iA := HI.out X HXW.out
        have cL : ∀ d os, Calls Tryd.prog 10 #[] (Sort.grow (redrawn X d) os) fun e w'' => e = .returned (.bool true) ∧ ∃ p : Regrown, w'' = Sort.grow (redrawn X p.d) p.os := fun d os => Calls.regrown_of (KL.out _ (HXW.out.trans ((below_regrown X d os).mono HXW.out.size)))
        have cS : ∀ d os, Calls Tryd.prog 14 #[.agg #[.slice E k ce, .int .i64 a.q, .int .i64 a.l, .int .i64 a.m, .int .i64 a.d, .int .i64 a.s], .agg #[.slice D k dk, .int .i64 a.q, .int .i64 a.l, .int .i64 a.m, .int .i64 a.d, .int .i64 a.s]] (Sort.grow (redrawn X d) os) fun e w'' => e = .returned (.bool true) ∧ ∃ p : Regrown, w'' = Sort.grow (redrawn X p.d) p.os := fun d os => Calls.regrown_of (KS.out _ _ _ (iE.below (below_regrown X d os) (Nat.le_refl _)) (iD.below (below_regrown X d os) (Nat.le_refl _)))
        have cU : ∀ d os, Calls Tryd.prog 14 #[.agg #[.slice E k ce, .int .i64 a.q, .int .i64 a.l, .int .i64 a.m, .int .i64 a.d, .int .i64 a.s], .agg #[.slice A k ca, .int .i64 a.q, .int .i64 a.l, .int .i64 a.m, .int .i64 a.d, .int .i64 a.s]] (Sort.grow (redrawn X d) os) fun e w'' => e = .returned (.bool r) ∧ ∃ p : Regrown, w'' = Sort.grow (redrawn X p.d) p.os := fun d os => Calls.regrown_of (KU.out _ _ _ (iE.below (below_regrown X d os) (Nat.le_refl _)) (iA.below (below_regrown X d os) (Nat.le_refl _)))
        clear iE iD iA a0 a1 a2 a3 a4 a5 d0 d1 d2 d3 d4 d5 x0 x1 x2 x3 x4 x5 hW3 hW4 KS KU KL HI4 HR4 HD4 HXX HX4
        go_wp2_with fail
        rw [← hX]
        clear hX
        cases r
        all_goals
          refine wp_region_quiet_below (by kernel_rfl) (by kernel_rfl) ?_
          repeat (go_big_quiet_step (first | with_reducible exact cL _ _ | with_reducible exact cS _ _ | with_reducible exact cU _ _))
          refine wpQuiet_nil ?_
          intro _ hw'
          obtain ⟨⟨dq, osq⟩, hw''⟩ := hw'
          subst hw''
          go_wp2
          go_ret
          exact ⟨rfl, HGO.out _ (HXW.out.trans ((below_regrown X dq osq).mono HXW.out.size))⟩
end Go.Proofs.YtlbabhddjdhalaaDoor
