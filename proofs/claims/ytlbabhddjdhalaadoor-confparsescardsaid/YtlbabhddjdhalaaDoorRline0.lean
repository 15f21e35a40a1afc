/- The document's own line, of the word server. -/
import Derived.Test.YtlbabhddjdhalaaDoorRst
namespace Go.Proofs.YtlbabhddjdhalaaDoor
open Go.RowKit Go.Proofs.Lx

set_option maxRecDepth 100000 in
set_option maxHeartbeats 8000000 in
theorem rline_0 (r : List Bs) (st : St) (bc g n c : Nat) (w : World) (hst : Rst w bc st) (hn : n = (wServer :: r).length) (hc : n ≤ c) (hg : g < w.heap.size) (hcell : ∀ (j : Nat) (x : Bs), (wServer :: r)[j]? = some x → w.cell? ⟨g, j, none⟩ = some (Str x)) (hl0 : n ≤ 1000000) (hsz : ∀ x ∈ r, x.length ≤ 1000000) :
    Calls Tryd.prog 35 #[.pointer (some ⟨bc, 0, none⟩), .pointer (some ⟨bc + 1, 0, none⟩), .slice (some ⟨g, 0, none⟩) n c] w fun e w' => LinePost w bc (doL st (wServer :: r)) e w' := by
  obtain ⟨i0, hi, hz0, hz1, hz2⟩ := info_parts Tryd.info3
  have hlt := hst.lt
  obtain ⟨p, hp, hpl⟩ := str_mk wServer
  have f0 := hcell 0 wServer rfl
  rw [hp] at f0
  have HR : Hid (n = r.length + 1) := by show _ = _; rw [hn]; simp
  obtain ⟨X, hX⟩ : ∃ X, X = w.alloc (.cells #[.string ⟨#[115, 101, 114, 118, 101, 114]⟩, .string ⟨#[113, 117, 111, 114, 117, 109]⟩, .string ⟨#[112, 111, 108, 108]⟩, .string ⟨#[100, 101, 108, 97, 121]⟩, .string ⟨#[115, 108, 101, 119]⟩] 9) := ⟨_, rfl⟩
  have HX5 : Hid (X.heap[w.heap.size]? = some (.cells fiveW 9 (0, 0))) := by show _ = _; rw [hX]; exact heap_alloc_new _ _
  have hbX : Below w.heap.size w X := by rw [hX]; exact below_alloc _ _
  have HBX := Lib.hid hbX
  have x0 : X.cell? ⟨g, 0, none⟩ = some (.string p) := (hbX.cell (p := ⟨g, 0, none⟩) hg).trans f0
  have HRS := Lib.hid (hst.below hbX (Nat.le_refl _))
  have HBN : Hid (∀ m, Below w.heap.size w (X.drewN m)) := fun m => ⟨hbX.os, hbX.tape, hbX.output, hbX.size, hbX.block⟩
  have HCE := Lib.hid hcell
  have HPL := Lib.hid hpl
  have HSZ := Lib.hid hsz
  have n2 : 0 < n := by have := HR.out; omega
  have n1 : (0 : Int) < (n : Int) := by omega
  have HBZ : Hid (∀ m, Below bc w (X.drewN m)) := fun m => (HBN.out m).mono (by omega)
  clear hn hcell hpl hsz hbX f0 hst hp
  go_enter Tryd.func35, Tryd.ntmps35
  go_wp2
  rw [← hX]
  clear hX
  go_loopw [8] (fun i wr => ∃ k m : Nat, k ≤ 0 ∧ i = .int .i64 k ∧ wr = X.drewN m) (fun i _ => 0 - (intOf i).toNat)
  case atStart => exact ⟨0, 0, Nat.zero_le _, rfl, rfl⟩
  case round =>
    obtain ⟨k, m, hk, rfl, rfl⟩ := hrel
    obtain rfl : k = 0 := by omega
    clear hk
    obtain ⟨q, hq, hql⟩ := word_at HX5.out 0 (by decide)
    have tq : (q.toList == p.toList) = true := word_eq (by rw [hql, HPL.out]; rfl)
    go_wp2
    go_quiet (fail)
    clear hq hql tq
    by_cases hlen : n = 2
    case neg =>
      have t6 : ((n : Int) != 2) = true := by simp; omega
      have HD := Lib.hid ((doL_server st r).trans (srv_bad (by rw [nums_form r 1 (by have := HR.out; omega)]) (by decide : (6 : Nat) ≠ 0)))
      go_wp2
      go_ret
      exact lnp_bad HD.out (by decide) (HBZ.out _)
    case pos =>
      subst hlen
      have hrl : r.length = 1 := by have := HR.out; omega
      have c1 : ¬ c = 1 := by omega
      have c2 : 2 ≤ c := hc
      have K58 : Hid (∀ m, Calls Tryd.prog 58 #[.slice (some ⟨g, 1, none⟩) 1 (c - 1)] (X.drewN m) fun e w' => ∃ x y : Int, e = .returned (.tuple #[.agg #[.int .i64 x, .int .i64 y], .int .i64 ((numsF [] r).2 : Nat)]) ∧ ((numsF [] r).2 = 0 → (numsF [] r).1 = [x, y].take 1) ∧ Below X.heap.size X w') := fun m => by
        have hT : Txts (X.drewN m) (.slice (some ⟨g, 1, none⟩) 1 (c - 1)) r := ⟨some ⟨g, 1, none⟩, c - 1, by rw [hrl], by omega, fun _ => ⟨g, 1, rfl, Nat.lt_of_lt_of_le hg (HBN.out m).size, fun j z hj => ((HBN.out m).cell (p := ⟨g, 1 + j, none⟩) hg).trans (by rw [Nat.add_comm]; exact HCE.out (j + 1) z (by simpa using hj))⟩⟩
        refine (rnums_any _ r _ hT (by omega) HSZ.out).mono ?_
        rintro e w' ⟨x, y, h1, h2, h3⟩
        rw [hrl] at h2
        exact ⟨x, y, h1, h2, ⟨h3.os, h3.tape, h3.output, h3.size, h3.block⟩⟩
      have HNF := Lib.hid (nums_full r 1 hrl)
      obtain ⟨en, hen⟩ : ∃ en, en = (numsF [] r).2 := ⟨_, rfl⟩
      have HEN := Lib.hid hen
      rw [← hen] at K58
      clear hen hrl x0
      go_wp2_with fail
      refine (K58.out _).mono ?_
      rintro e w3 ⟨x, y, rfl, hxy, hb3⟩
      have HB3 := Lib.hid hb3
      have HXY := Lib.hid hxy
      clear hxy hb3 K58
      by_cases he : en = 0
      case neg =>
        have te : ((en : Int) != 0) = true := by simp; omega
        have HD := Lib.hid ((doL_server st r).trans (srv_bad (by rw [HNF.out, ← HEN.out]) he))
        have HBY : Hid (∀ o, Below bc w (w3.alloc o)) := fun o => ((HBX.out.trans (HB3.out.mono HBX.out.size)).alloc (by have := HB3.out.size; have := HBX.out.size; omega) o).mono (by omega)
        go_wp2
        go_ret
        exact lnp_bad HD.out he (HBY.out _)
      case pos =>
        subst he
        have HNM : Hid (numbersOf r 1 = ([x, y].take 1, 0)) := by
          show _ = _
          rw [HNF.out]
          exact Prod.ext (HXY.out rfl) HEN.out.symm
        obtain ⟨Y, hY⟩ : ∃ Y, Y = w3.alloc (.cells #[.int .i64 x, .int .i64 y] 97) := ⟨_, rfl⟩
        have HBY : Hid (Below w.heap.size w Y) := by
          show Below _ _ _
          rw [hY]; exact (HBX.out.trans (HB3.out.mono HBX.out.size)).alloc (by have := HB3.out.size; have := HBX.out.size; omega) _
        have HBZ2 : Hid (Below bc w Y) := HBY.out.mono (by omega)
        have HRY : Hid (Rst Y bc st) := by
          show Rst _ _ _
          rw [hY]
          exact (HRS.out.below HB3.out (Nat.le_refl _)).below (below_alloc _ _) (Nat.le_refl _)
        have HG3 : Hid (w.heap.size ≤ w3.heap.size) := Nat.le_trans HBX.out.size HB3.out.size
        have HR3 := Lib.hid (HRS.out.below HB3.out (Nat.le_refl _))
        have HBW3 : Hid (Below bc w w3) := (HBX.out.trans (HB3.out.mono HBX.out.size)).mono (by omega)
        have lt3 : bc + 1 < w3.heap.size := HR3.out.lt
        have lt4 : bc < w3.heap.size := by omega
        have hy1 : w3.heap.size ≠ bc + 1 := by have := HG3.out; omega
        have hy2 : w3.heap.size ≠ bc := by have := HG3.out; omega
        obtain ⟨s0, s1, s2, s3, s4, sf⟩ := five_bools HR3.out.seen
        have f1 := sf 0
        obtain ⟨A', cp', hcp', hb', hrow', c0, cq, cl, cm, cd, cs, cf⟩ := HR3.out.cell.facts
        have HROW := Lib.hid hrow'
        have HBK := Lib.hid hb'
        have z0 := cf 0
        have z1 := cf 1
        have z2 := cf 2
        have z3 := cf 3
        have z4 := cf 4
        have z5 := cf 5
        clear sf cf hrow' hb' HNF HEN HXY
        have HNM1 : Hid (numbersOf r 1 = ([x], 0)) := HNM.out
        have HLS : Hid (st.c.S.length ≤ 16) := HR3.out.len
        have HIY : Hid (Ints Y (.slice A' st.c.S.length cp') st.c.S) := by
          show Ints _ _ _
          rw [hY]; exact HROW.out.ints.alloc _
        have HOQ : Hid (∀ q, (Value.slice A' st.c.S.length cp').ownBlock = some q → q < w3.heap.size) := fun q hq => (World.ownsRow.lt HROW.out q hq).2
        have HOY : Hid (Y.ownsRow (bc + 2) 3 1 (.slice A' st.c.S.length cp') st.c.S.length (st.c.S.map (Value.int .i64))) := by
          rw [hY]
          exact World.ownsRow.alloc HROW.out _
        have HKY : Hid (Y.heap[bc]? = some (.cells #[.slice A' st.c.S.length cp', .int .i64 st.c.q, .int .i64 st.c.l, .int .i64 st.c.m, .int .i64 st.c.d, .int .i64 st.c.s] 24 (0, 0))) := by
          rw [hY]; exact (heap_alloc_old _ _ lt4).trans HBK.out
        have HSY : Hid (Y.heap[bc + 1]? = some (.cells #[.bool st.b0, .bool st.b1, .bool st.b2, .bool st.b3, .bool st.b4] 76 (0, 0))) := HRY.out.seen
        have HBM : Hid (∀ m, Below bc w (Y.drewN m)) := fun m => ⟨HBZ2.out.os, HBZ2.out.tape, HBZ2.out.output, HBZ2.out.size, HBZ2.out.block⟩
        have y0 : Y.cell? ⟨bc, 0, none⟩ = some (.slice A' st.c.S.length cp') := Lib.cell_of_heap HKY.out 0
        have ny0 : Y.cell? ⟨w3.heap.size, 0, none⟩ = some (.int .i64 x) := by rw [hY]; simp
        have HYS : Hid (Y.heap.size = w3.heap.size + 1) := by show _ = _; rw [hY]; simp
        obtain ⟨N, hN⟩ : ∃ N, N = st.c.S.length := ⟨_, rfl⟩
        have HN := Lib.hid hN
        rw [← hN] at y0 HIY HOQ HOY HKY hcp' HLS
        rw [← hN] at c0 HROW HBK
        have h16 := HLS.out
        clear hN
        go_wp2
        rw [← hY]
        clear hY s0 s1 s2 s3 s4 f1 c0 cq cl cm cd cs z0 z1 z2 z3 z4 z5 HBK HROW
        go_loopw [11] (fun i wr => ∃ j m : Nat, j ≤ N ∧ i = .int .i64 j ∧ Hid (x ∉ st.c.S.take j) ∧ wr = Y.drewN m) (fun i _ => N - (intOf i).toNat)
        case atStart => exact ⟨0, 0, Nat.zero_le _, rfl, (by simp : x ∉ st.c.S.take 0), rfl⟩
        case round =>
          obtain ⟨j, m, hj, rfl, HJ, rfl⟩ := hrel
          by_cases hjN : j < N
          · have hjx : j < st.c.S.length := by have := HN.out; omega
            obtain ⟨g', o', rfl, hg', hcell'⟩ := HIY.out.at_ j hjx
            have HS := Lib.hid (take_mem_succ' (y := x) hjx HJ.out)
            have HT : Hid (st.c.S[j] = x → x ∈ st.c.S) := fun e => by rw [← e]; exact List.getElem_mem hjx
            obtain ⟨z, hz⟩ : ∃ z, z = st.c.S[j] := ⟨_, rfl⟩
            rw [← hz] at hcell' HS HT
            clear hz hjx HJ
            by_cases hzx : z = x
            · have HD := Lib.hid ((doL_server st r).trans (srv_twice HNM1.out (HT.out hzx)))
              have t7 : (z == x) = true := by simp [hzx]
              clear hzx HS HT
              go_wp2
              go_quiet (fail)
              go_wp2
              go_ret
              exact lnp_bad HD.out (by decide) (below_dn (HBM.out m) _)
            · have HZ := Lib.hid (HS.out hzx)
              have t7 : (z == x) = false := by simp [hzx]
              clear hzx HS HT
              go_wp2
              go_quiet (fail)
              go_wp2
              go_roundw
              case rel => exact ⟨j + 1, _, by omega, by go_num, HZ, rfl⟩
              case measure => simp [intOf]; omega
          · have hxs := HJ.out
            rw [List.take_of_length_le (by have := HN.out; omega)] at hxs
            obtain rfl : j = N := by omega
            by_cases hf : j = 16
            · have HD := Lib.hid ((doL_server st r).trans (srv_full HNM1.out hxs (HN.out.symm.trans hf)))
              have t8 : ((j : Int) == 16) = true := by simp; omega
              have t9 : ¬ (j : Int) < (j : Int) := by omega
              clear hxs HJ hj hjN
              go_wp2
              go_ret
              exact lnp_bad HD.out (by decide) (HBM.out _)
            · have HD := Lib.hid ((doL_server st r).trans (srv_add HNM1.out hxs (fun e => hf (HN.out.trans e))))
              have t8 : ((j : Int) == 16) = false := by simp; omega
              have t9 : ¬ (j : Int) < (j : Int) := by omega
              have HLX : Hid ((st.c.S ++ [x]).length ≤ 16) := by
                show _ ≤ _
                rw [List.length_append, ← HN.out]
                simp; omega
              clear hxs HJ hj hjN
              go_wp2_with fail
              obtain ⟨wd, hwd⟩ : ∃ wd, wd = (Y.drewN m).drew := ⟨_, rfl⟩
              have HOW : Hid (wd.ownsRow (bc + 2) 3 1 (.slice A' j cp') j (st.c.S.map (Value.int .i64))) := by
                rw [hwd]
                have h3 := HOY.out
                exact h3
              have hbd : wd.heap[bc]? = some (.cells #[.slice A' j cp', .int .i64 st.c.q, .int .i64 st.c.l, .int .i64 st.c.m, .int .i64 st.c.d, .int .i64 st.c.s] 24 (0, 0)) := by rw [hwd]; exact HKY.out
              have hsd : wd.heap[bc + 1]? = some (.cells #[.bool st.b0, .bool st.b1, .bool st.b2, .bool st.b3, .bool st.b4] 76 (0, 0)) := by rw [hwd]; exact HSY.out
              have HBd : Hid (Below bc w wd) := by show Below _ _ _; rw [hwd]; exact ⟨HBZ2.out.os, HBZ2.out.tape, HBZ2.out.output, HBZ2.out.size, HBZ2.out.block⟩
              have HCD : Hid (wd.cell? ⟨w3.heap.size, 0, none⟩ = some (.int .i64 x)) := by rw [hwd]; exact ny0
              have HWS : Hid (wd.heap.size = w3.heap.size + 1) := by rw [hwd]; exact HYS.out
              have hD0 : wd.cell? ⟨bc, 0, none⟩ = some (.slice A' j cp') := Lib.cell_of_heap hbd 0
              have hD1 : (wd.alloc (.cells #[.int .i64 x] 3)).cell? ⟨bc, 0, none⟩ = some (.slice A' j cp') := (World.cell?_alloc_some wd _ _ (by rw [hD0]; rfl)).trans hD0
              have HCA : Hid ((wd.alloc (.cells #[.int .i64 x] 3)).cell? ⟨w3.heap.size, 0, none⟩ = some (.int .i64 x)) := (World.cell?_alloc_some wd _ _ (by rw [HCD.out]; rfl)).trans HCD.out
              have HGR := Lib.hid (fun (w2 : World) (h : (wd.alloc (.cells #[.int .i64 x] 3)).grownBy w2 (Value.slice A' j cp').ownBlock) => srv_grown HOW.out HOQ.out (by rw [HWS.out]; omega) h)
              have HBD := Lib.hid hbd
              have HSD := Lib.hid hsd
              have HOB : Hid ((wd.alloc (.cells #[.int .i64 x] 3)).ownsRow (bc + 2) 3 1 (.slice A' j cp') j (st.c.S.map (Value.int .i64))) := World.ownsRow.alloc HOW.out _
              have HNB : Hid (∀ i u, [Value.int .i64 x][i]? = some u → (wd.alloc (.cells #[.int .i64 x] 3)).cell? ((⟨wd.heap.size, 0, none⟩ : Addr).add i) = some u) := cell_one_new _ _ _
              have wlt : bc + 2 ≤ wd.heap.size := by rw [HWS.out]; omega
              clear hbd hsd
              refine wp_region_held_drew (S := (fun W' => W'.cell? ⟨w3.heap.size, 0, none⟩ = some (.int .i64 x))) (by kernel_rfl) (by rw [← hwd]; exact HCD.out) (fun hHeld => ?_)
              rw [← hwd] at hHeld ⊢
              clear hwd
              refine wpAnyH_take (i := 0) (v := ?_) rfl (by kernel_rfl) (by kernel_rfl) (by kernel_rfl) (fun _ _ _ h => h) (Or.inl ⟨by rfl, ?_⟩) (by assumption) ?_
              rotate_left
              · (intro w hSw; (try dsimp only at hSw); go_simp; try with_reducible rfl)
              refine wpAnyH_take (i := 1) (v := ?_) rfl (by kernel_rfl) (by kernel_rfl) (by kernel_rfl) (fun _ _ _ h => h) (Or.inl ⟨by rfl, ?_⟩) (by assumption) ?_
              rotate_left
              · (intro w hSw; (try dsimp only at hSw); go_simp; try with_reducible rfl)
              refine wpAnyH_take (i := 2) (v := ?_) rfl (by kernel_rfl) (by kernel_rfl) (by kernel_rfl) (fun _ _ _ h => h) (Or.inl ⟨by rfl, ?_⟩) (by assumption) ?_
              rotate_left
              · (intro w hSw; (try dsimp only at hSw); go_simp; try with_reducible rfl)
              refine wpAnyH_take (i := 3) (v := ?_) rfl (by kernel_rfl) (by kernel_rfl) (by kernel_rfl) (fun _ _ _ h => h) (Or.inl ⟨by rfl, ?_⟩) (by assumption) ?_
              rotate_left
              · (intro w hSw; (try dsimp only at hSw); go_simp; try with_reducible rfl)
              refine wpAnyH_take (i := 5) (v := ?_) rfl (by kernel_rfl) (by kernel_rfl) (by kernel_rfl) (fun _ _ _ h => h) (Or.inl ⟨by rfl, ?_⟩) (by assumption) ?_
              rotate_left
              · (intro w hSw; (try dsimp only at hSw); go_simp; try with_reducible rfl)
              refine wpAnyH_take (i := 6) (v := ?_) rfl (by kernel_rfl) (by kernel_rfl) (by kernel_rfl) (fun _ _ _ h => h) (Or.inl ⟨by rfl, ?_⟩) (by assumption) ?_
              rotate_left
              · (intro w hSw; (try dsimp only at hSw); go_simp; try with_reducible rfl)
              refine wpAnyH_ready (rs := [4, 7]) (by kernel_rfl) (by simp) ?_
              refine AllReadyH.cons rfl (fun K hK => ?_) <| AllReadyH.cons rfl (fun K hK => ?_) <| AllReadyH.nil
              · skip
                go_simp
                refine hK.out _ _ hHeld (fun hHeld => ?_)
                clear hK K
                refine wpAnyH_ready (rs := [7]) (by kernel_rfl) (by simp) ?_
                refine AllReadyH.cons rfl (fun K hK => ?_) AllReadyH.nil
                go_simp
                refine hK.out _ _ HCA.out (fun hHeld => ?_)
                clear hK K
                refine wpAnyH_ready (rs := [8]) (by kernel_rfl) (by simp) ?_
                refine AllReadyH.cons rfl (fun K hK => ?_) AllReadyH.nil

                refine step_append_lies _ rfl (.tmp 85) (.tmp 88) 22 rfl (bc + 2) 3 i0 (.int .i64 0) 1 8 Tryd.underlying22 hi hz0 hz1 hz2 rfl (by decide) (.slice A' j cp') j (st.c.S.map (Value.int .i64)) (by go_simp) HOB.out ⟨wd.heap.size, 0, none⟩ 1 1 [.int .i64 x] (by go_simp) rfl HNB.out (one_int _) (by decide) (by unfold maxLen; omega) (by omega) (by simp; omega) (wd.heap.size + 1) (by simp) ?_
                intro g2 cap2 w5 hown2 hgrow2 _ _
                obtain ⟨hk1, hk2, hk3⟩ := HGR.out _ hgrow2
                have hb5 := (hk1 bc (by omega)).trans HBD.out
                have hs5 := (hk1 (bc + 1) (by omega)).trans HSD.out
                have HR5 := Lib.hid (row_snocN' HN.out.symm hown2)
                have HB5 := Lib.hid (hk3 bc w HBd.out (by omega))
                have HC5 : Hid (w5.cell? ⟨w3.heap.size, 0, none⟩ = some (.int .i64 x)) := (hk2 ⟨w3.heap.size, 0, none⟩ (Nat.le_refl _) (by rw [HWS.out]; simp)).trans HCD.out
                clear hown2 hgrow2 hk1 hk2 hk3
                have d0 : w5.cell? ⟨bc, 0, none⟩ = some (.slice A' j cp') := Lib.cell_of_heap hb5 0
                have f0 : w5.frozen? ⟨bc, 0, none⟩ = false := Lib.frozen_of_heap hb5 0
                have d1 : w5.cell? ⟨bc + 1, 0, none⟩ = some (.bool st.b0) := Lib.cell_of_heap hs5 0
                have f1 : w5.frozen? ⟨bc + 1, 0, none⟩ = false := Lib.frozen_of_heap hs5 0
                have HH5 := Lib.hid hb5
                have HI5 := Lib.hid hs5
                clear hb5 hs5
                refine hK.out _ _ HC5.out (fun hHeld => ?_)
                clear hK K
                refine wpAnyH_take (i := 9) (v := ?_) rfl (by kernel_rfl) (by kernel_rfl) (by kernel_rfl) (fun _ _ _ h => h) (Or.inl ⟨by rfl, ?_⟩) (by assumption) ?_
                rotate_left
                · (intro w hSw; (try dsimp only at hSw); go_simp; try with_reducible rfl)
                refine wpAnyH_take (i := 10) (v := ?_) rfl (by kernel_rfl) (by kernel_rfl) (by kernel_rfl) (fun _ _ _ h => h) (Or.inl ⟨by rfl, ?_⟩) (by assumption) ?_
                rotate_left
                · (intro w hSw; (try dsimp only at hSw); go_simp; try with_reducible rfl)
                refine wpAnyH_ready (rs := [11]) (by kernel_rfl) (by simp) ?_
                refine AllReadyH.cons rfl (fun K hK => ?_) AllReadyH.nil

                go_simp
                refine hK.out _ _ ((World.cell?_setCell_far _ _ _ _ (by simp; omega)).trans HC5.out) (fun hHeld2 => ?_)
                clear hK K
                refine wpAnyH_done (by kernel_rfl) ?_ _
                go_simp
                go_wp2
                go_ret
                refine lnp_ok HD.out ⟨cell_mark ⟨_, by rw [heap_setCell_same _ _ _ _ _ _ HH5.out]; rfl, row_set HR5.out (by omega)⟩, seen_set (seen_other HI5.out), HLX.out⟩ (below_set (below_set HB5.out (by omega)) (by omega))
              · skip
                go_simp
                refine hK.out _ _ HCA.out (fun hHeld => ?_)
                clear hK K
                refine wpAnyH_ready (rs := [4]) (by kernel_rfl) (by simp) ?_
                refine AllReadyH.cons rfl (fun K hK => ?_) AllReadyH.nil
                go_simp
                refine hK.out _ _ hHeld (fun hHeld => ?_)
                clear hK K
                refine wpAnyH_ready (rs := [8]) (by kernel_rfl) (by simp) ?_
                refine AllReadyH.cons rfl (fun K hK => ?_) AllReadyH.nil

                refine step_append_lies _ rfl (.tmp 85) (.tmp 88) 22 rfl (bc + 2) 3 i0 (.int .i64 0) 1 8 Tryd.underlying22 hi hz0 hz1 hz2 rfl (by decide) (.slice A' j cp') j (st.c.S.map (Value.int .i64)) (by go_simp) HOB.out ⟨wd.heap.size, 0, none⟩ 1 1 [.int .i64 x] (by go_simp) rfl HNB.out (one_int _) (by decide) (by unfold maxLen; omega) (by omega) (by simp; omega) (wd.heap.size + 1) (by simp) ?_
                intro g2 cap2 w5 hown2 hgrow2 _ _
                obtain ⟨hk1, hk2, hk3⟩ := HGR.out _ hgrow2
                have hb5 := (hk1 bc (by omega)).trans HBD.out
                have hs5 := (hk1 (bc + 1) (by omega)).trans HSD.out
                have HR5 := Lib.hid (row_snocN' HN.out.symm hown2)
                have HB5 := Lib.hid (hk3 bc w HBd.out (by omega))
                have HC5 : Hid (w5.cell? ⟨w3.heap.size, 0, none⟩ = some (.int .i64 x)) := (hk2 ⟨w3.heap.size, 0, none⟩ (Nat.le_refl _) (by rw [HWS.out]; simp)).trans HCD.out
                clear hown2 hgrow2 hk1 hk2 hk3
                have d0 : w5.cell? ⟨bc, 0, none⟩ = some (.slice A' j cp') := Lib.cell_of_heap hb5 0
                have f0 : w5.frozen? ⟨bc, 0, none⟩ = false := Lib.frozen_of_heap hb5 0
                have d1 : w5.cell? ⟨bc + 1, 0, none⟩ = some (.bool st.b0) := Lib.cell_of_heap hs5 0
                have f1 : w5.frozen? ⟨bc + 1, 0, none⟩ = false := Lib.frozen_of_heap hs5 0
                have HH5 := Lib.hid hb5
                have HI5 := Lib.hid hs5
                clear hb5 hs5
                refine hK.out _ _ HC5.out (fun hHeld => ?_)
                clear hK K
                refine wpAnyH_take (i := 9) (v := ?_) rfl (by kernel_rfl) (by kernel_rfl) (by kernel_rfl) (fun _ _ _ h => h) (Or.inl ⟨by rfl, ?_⟩) (by assumption) ?_
                rotate_left
                · (intro w hSw; (try dsimp only at hSw); go_simp; try with_reducible rfl)
                refine wpAnyH_take (i := 10) (v := ?_) rfl (by kernel_rfl) (by kernel_rfl) (by kernel_rfl) (fun _ _ _ h => h) (Or.inl ⟨by rfl, ?_⟩) (by assumption) ?_
                rotate_left
                · (intro w hSw; (try dsimp only at hSw); go_simp; try with_reducible rfl)
                refine wpAnyH_ready (rs := [11]) (by kernel_rfl) (by simp) ?_
                refine AllReadyH.cons rfl (fun K hK => ?_) AllReadyH.nil

                go_simp
                refine hK.out _ _ ((World.cell?_setCell_far _ _ _ _ (by simp; omega)).trans HC5.out) (fun hHeld2 => ?_)
                clear hK K
                refine wpAnyH_done (by kernel_rfl) ?_ _
                go_simp
                go_wp2
                go_ret
                refine lnp_ok HD.out ⟨cell_mark ⟨_, by rw [heap_setCell_same _ _ _ _ _ _ HH5.out]; rfl, row_set HR5.out (by omega)⟩, seen_set (seen_other HI5.out), HLX.out⟩ (below_set (below_set HB5.out (by omega)) (by omega))
end Go.Proofs.YtlbabhddjdhalaaDoor
