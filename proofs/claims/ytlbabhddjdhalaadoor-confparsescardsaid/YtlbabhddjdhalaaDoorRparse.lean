/- The document's own Parse. -/
import Derived.Test.YtlbabhddjdhalaaDoorRline0
import Derived.Test.YtlbabhddjdhalaaDoorRline1
import Derived.Test.YtlbabhddjdhalaaDoorRline2
import Derived.Test.YtlbabhddjdhalaaDoorRline3
import Derived.Test.YtlbabhddjdhalaaDoorRline4
import Derived.Test.YtlbabhddjdhalaaDoorRline5
import Derived.Test.YtlbabhddjdhalaaDoorRchk
import Derived.Test.YtlbabhddjdhalaaDoorRlines
import Derived.Test.YtlbabhddjdhalaaDoorParse
namespace Go.Proofs.YtlbabhddjdhalaaDoor
open Go.RowKit Go.Proofs.Lx

theorem rline_any (ws : List Bs) (st : St) (bc g n c : Nat) (w : World) (hst : Rst w bc st) (hn : n = ws.length) (h0 : ws ≠ []) (hc : n ≤ c) (hg : g < w.heap.size) (hcell : ∀ (j : Nat) (x : Bs), ws[j]? = some x → w.cell? ⟨g, j, none⟩ = some (Str x)) (hl0 : n ≤ 1000000) (hsz : ∀ x ∈ ws, x.length ≤ 1000000) :
    Calls Tryd.prog 35 #[.pointer (some ⟨bc, 0, none⟩), .pointer (some ⟨bc + 1, 0, none⟩), .slice (some ⟨g, 0, none⟩) n c] w fun e w' => LinePost w bc (doL st ws) e w' := by
  match ws, h0 with
  | l :: r, _ =>
    have hr : ∀ x ∈ r, x.length ≤ 1000000 := fun x hx => hsz x (by simp [hx])
    by_cases e0 : l = wServer
    · subst e0; exact rline_0 r st bc g n c w hst hn hc hg hcell hl0 hr
    by_cases e1 : l = wQuorum
    · subst e1; exact rline_1 r st bc g n c w hst hn hc hg hcell hl0 hr
    by_cases e2 : l = wPoll
    · subst e2; exact rline_2 r st bc g n c w hst hn hc hg hcell hl0 hr
    by_cases e3 : l = wDelay
    · subst e3; exact rline_3 r st bc g n c w hst hn hc hg hcell hl0 hr
    by_cases e4 : l = wSlew
    · subst e4; exact rline_4 r st bc g n c w hst hn hc hg hcell hl0 hr
    · refine rline_5 l r st bc g n c w hst hn hc hg hcell hl0 hr (fun k hk => ?_)
      match k, hk with
      | 0, _ => exact e0
      | 1, _ => exact e1
      | 2, _ => exact e2
      | 3, _ => exact e3
      | 4, _ => exact e4
def bitOf (st : St) : Nat → Bool
  | 0 => st.b0
  | 1 => st.b1
  | 2 => st.b2
  | 3 => st.b3
  | _ => st.b4
theorem bit_cell {w : World} {bc : Nat} {st : St} (h : Rst w bc st) (k : Nat) (hk : k < 5) : w.cell? ⟨bc + 1, k, none⟩ = some (.bool (bitOf st k)) := by
  obtain ⟨h0, h1, h2, h3, h4, _⟩ := five_bools h.seen
  match k, hk with
  | 0, _ => exact h0
  | 1, _ => exact h1
  | 2, _ => exact h2
  | 3, _ => exact h3
  | 4, _ => exact h4
theorem fin_lack {st : St} {k : Nat} (hk : k < 5) (h : bitOf st k = false) : fin st = (Cfg.none, 0, 13) := by
  have : (st.b0 && st.b1 && st.b2 && st.b3 && st.b4) = false := by
    match k, hk with
    | 0, _ => have h' : st.b0 = false := h; simp [h']
    | 1, _ => have h' : st.b1 = false := h; simp [h']
    | 2, _ => have h' : st.b2 = false := h; simp [h']
    | 3, _ => have h' : st.b3 = false := h; simp [h']
    | 4, _ => have h' : st.b4 = false := h; simp [h']
  unfold fin
  rw [this]; rfl
theorem fin_all {st : St} (h : ∀ k, k < 5 → bitOf st k = true) : fin st = if checkOf st.c = 0 then (st.c, 0, 0) else (Cfg.none, 0, checkOf st.c) := by
  have h0 : st.b0 = true := h 0 (by decide)
  have h1 : st.b1 = true := h 1 (by decide)
  have h2 : st.b2 = true := h 2 (by decide)
  have h3 : st.b3 = true := h 3 (by decide)
  have h4 : st.b4 = true := h 4 (by decide)
  unfold fin
  simp [h0, h1, h2, h3, h4]
theorem lines_block {T : TypeId} {w : World} {base g n c : Nat} {L : List Ln} (h : IsLines T w base (.slice (some ⟨g, 0, none⟩) n c) L) (hn : 0 < L.length) : base ≤ g := by
  obtain ⟨cs, h1, _⟩ := h
  obtain ⟨g', c', e, _, _, hb, _⟩ := own_cells h1 hn
  injection e with e
  injection e with e
  injection e with e
  omega
theorem runL_ok' {st : St} {L : List Ln} {k m : Nat} {ws : List Bs} (h : L[k]? = some (m, ws)) (hd : (doL st ws).1 = 0) : runL st (L.drop k) = runL (doL st ws).2 (L.drop (k + 1)) := by
  rw [runL_at st L k m ws h, if_pos hd]
theorem runL_bad' {st : St} {L : List Ln} {k m : Nat} {ws : List Bs} (h : L[k]? = some (m, ws)) (hd : (doL st ws).1 ≠ 0) : runL st (L.drop k) = (Cfg.none, m, (doL st ws).1) := by
  rw [runL_at st L k m ws h, if_neg hd]

set_option maxRecDepth 100000 in
set_option maxHeartbeats 8000000 in
theorem rparse_any (s : ByteArray) (w : World) (hs : s.size ≤ 100000) :
    Calls Tryd.prog 18 #[.string s] w fun e w' => ParsePost w s.data.toList e w' := by
  obtain ⟨w0, hw0⟩ : ∃ w0, w0 = w.alloc (.cells #[.slice none 0 0, .int .i64 0, .int .i64 0, .int .i64 0, .int .i64 0, .int .i64 0] 24) := ⟨_, rfl⟩
  have hs0 : w0.heap.size = w.heap.size + 1 := by rw [hw0]; simp
  have HB0 : Hid (Below w.heap.size w w0) := by
    show Below _ _ _
    rw [hw0]; exact below_alloc _ _
  have HR0 : Hid (w0.heap[w.heap.size]? = some (.cells #[.slice none 0 0, .int .i64 0, .int .i64 0, .int .i64 0, .int .i64 0, .int .i64 0] 24 (0, 0))) := by
    show _ = _
    rw [hw0]; exact heap_alloc_new _ _
  have KL := Lib.hid (rlines_any s w0 hs)
  obtain ⟨L, n0, e0, hout⟩ : ∃ L n0 e0, outOf s.data.toList = (L, n0, e0) := ⟨_, _, _, rfl⟩
  have KP : Hid (∀ e w', LinesPost 79 w0 s.data.toList e w' → ∃ v, IsLines 79 w' w0.heap.size v L ∧ e = .returned (.tuple #[v, .int .i64 (n0 : Nat), .int .i64 (e0 : Nat)]) ∧ Below w0.heap.size w0 w') := fun e w' h => by
    obtain ⟨v, h1, h2, h3⟩ := h
    rw [hout] at h1 h2
    exact ⟨v, h1, h2, h3⟩
  by_cases he : e0 = 0
  case neg =>
    have HPR : Hid (parseOf s.data.toList = (Cfg.none, n0, e0)) := by
      show _ = _
      rw [parse_bad _ (by rw [hout]; exact he), hout]
    have t1 : ((e0 : Int) != 0) = true := by simp; omega
    have hlt0 : w.heap.size < w0.heap.size := by omega
    clear hout he
    go_enter Tryd.func18, Tryd.ntmps18
    go_wp2_with (first
      | (rw [← hw0]; go_at_call 34; refine KL.out.mono ?_; intro e w1 h1; obtain ⟨v, hv, rfl, hb1⟩ := KP.out e w1 h1; obtain ⟨A, cp, rfl, hcp⟩ := hv.len; have HR4 := Lib.hid ((hb1.block w.heap.size hlt0).trans HR0.out); have HB4 := Lib.hid (HB0.out.trans (hb1.mono (Nat.le_of_lt hlt0))); clear h1 hv)
      | (refine wpList_store_res rfl 24 (.tmp 2) (.tmp 20) rfl w.heap.size _ rfl rfl 24 _ HR4.out info24 rfl (one6 _ _ _ _ _ _ _ _) ?_; intro W6 hW6 hb6 ho6; have HW6 := Lib.hid hW6; have HB6 := Lib.hid (hb6 _ _ HB4.out (Nat.le_refl _)); have HO6 := Lib.hid ho6; clear hW6 hb6 ho6))
    try simp only [Exit.inBlock, Exit.then]
    refine bodyPost_ret (results_cell3 rfl _ _ w.heap.size 24 _ (0, 0) _ rfl HW6.out Tryd.underlying24 rfl info24) rfl ?_
    exact pp_none HPR.out HB6.out
  case pos =>
    subst he
    have HPO : Hid (parseOf s.data.toList = runL St.none L) := by
      show _ = _
      rw [parse_ok _ (by rw [hout]), hout]
    have HSZ : Hid (L.length ≤ 1000000 ∧ ∀ (j m : Nat) (ws : List Bs), L[j]? = some (m, ws) → ws.length ≤ 1000000) := by
      have := out_sz s.data.toList
      rw [hout] at this; exact this
    have HNE : Hid (∀ (j m : Nat) (ws : List Bs), L[j]? = some (m, ws) → ws ≠ []) := fun j m ws hj => by
      obtain ⟨_, hr, _⟩ := outOf_ok s.data.toList (by rw [hout])
      rw [hout] at hr
      exact res_ne _ _ hr (m, ws) (List.mem_of_getElem? hj)
    have HWL := Lib.hid (word_size s hs hout)
    clear hout
    go_enter Tryd.func18, Tryd.ntmps18
    go_wp2_with fail
    rw [← hw0]
    refine KL.out.mono ?_
    intro e w1 h1
    obtain ⟨v, hv, rfl, hb1⟩ := KP.out e w1 h1
    have HV := Lib.hid hv
    obtain ⟨A, cp, rfl, hcp⟩ := hv.len
    have hb1s := hb1.size
    clear h1 hv
    obtain ⟨W, hW⟩ : ∃ W, W = (w1.alloc (.cells #[.slice none 0 0, .int .i64 0, .int .i64 0, .int .i64 0, .int .i64 0, .int .i64 0] 24)).alloc (.cells #[.bool false, .bool false, .bool false, .bool false, .bool false] 76) := ⟨_, rfl⟩
    have HRW : Hid (Rst W w1.heap.size St.none) := by
      show Rst _ _ _
      rw [hW]
      exact ⟨⟨.slice none 0 0, heap_alloc2_old _ _ _, Row.nil _ _⟩, heap_alloc2_new _ _ _, by decide⟩
    have HBW : Hid (Below w1.heap.size w1 W) := by show Below _ _ _; rw [hW]; exact below_two _ _ _
    have HR1 : Hid (w1.heap[w.heap.size]? = some (.cells #[.slice none 0 0, .int .i64 0, .int .i64 0, .int .i64 0, .int .i64 0, .int .i64 0] 24 (0, 0))) := (hb1.block _ (by omega)).trans HR0.out
    have HB1 : Hid (Below w.heap.size w w1) := HB0.out.trans (hb1.mono (by omega))
    have HLT : Hid (w.heap.size < w1.heap.size) := by show _ < _; omega
    have hL0 := HSZ.out.1
    have HS0 : Hid (w0.heap.size = w.heap.size + 1) := hs0
    clear hb1 hb1s hs0 hw0 KL KP HB0 HR0
    go_wp2_with fail
    rw [← hW]
    obtain ⟨bc, hbc⟩ : ∃ bc, bc = w1.heap.size := ⟨_, rfl⟩
    have HBC := Lib.hid hbc
    rw [← hbc] at HRW HBW HLT ⊢
    clear hW hbc
    go_loopw [10] (fun i wr => ∃ (k : Nat) (st : St), k ≤ L.length ∧ i = .int .i64 k ∧ Hid (Rst wr bc st) ∧ Hid (Below bc w1 wr) ∧ Hid (runL St.none L = runL st (L.drop k))) (fun i _ => L.length - (intOf i).toNat)
    case atStart => exact ⟨0, St.none, Nat.zero_le _, rfl, HRW.out, HBW.out, (by simp : runL St.none L = runL St.none (L.drop 0))⟩
    case round =>
      obtain ⟨k, st, hk, rfl, HR, HB, HX⟩ := hrel
      have HBR : Hid (Below w.heap.size w wr) := HB1.out.trans (HB.out.mono (Nat.le_of_lt HLT.out))
      have HRR : Hid (wr.heap[w.heap.size]? = some (.cells #[.slice none 0 0, .int .i64 0, .int .i64 0, .int .i64 0, .int .i64 0, .int .i64 0] 24 (0, 0))) := (HB.out.block _ HLT.out).trans HR1.out
      by_cases hkN : k < L.length
      · obtain ⟨⟨m, ws⟩, hm⟩ : ∃ x, L[k]? = some x := ⟨_, List.getElem?_eq_getElem hkN⟩
        obtain ⟨g, c, e1, hc, hg, hcell⟩ := HV.out.at_ (by omega)
        injection e1 with e1 e2 e3
        subst e1 e3
        have HGW : Hid (g ≠ w.heap.size) := by
          intro e
          have h1 := lines_block HV.out (by omega)
          have := HS0.out
          omega
        obtain ⟨a1, u, a2, a3⟩ := hcell k m ws hm
        rw [Nat.mul_comm] at a1 a2
        have hne := HNE.out k m ws hm
        obtain ⟨g2, c2, rfl, hc2, hg2, hcw⟩ := a3.at_ (List.length_pos_iff.2 hne)
        have hgb : g < bc := by rw [HBC.out]; exact hg
        have hgb2 : g2 < bc := by rw [HBC.out]; exact hg2
        have b1 : wr.cell? ⟨g, k * 2, none⟩ = some (.int .i64 (m : Int)) := (HB.out.cell (p := ⟨g, k * 2, none⟩) hgb).trans a1
        have b2 : wr.cell? ⟨g, k * 2 + 1, none⟩ = some (.slice (some ⟨g2, 0, none⟩) ws.length c2) := (HB.out.cell (p := ⟨g, k * 2 + 1, none⟩) hgb).trans a2
        have KC := Lib.hid (rline_any ws st bc g2 ws.length c2 wr HR.out rfl hne hc2 (by have := HR.out.lt; omega) (fun j x hj => (HB.out.cell (p := ⟨g2, j, none⟩) hgb2).trans (hcw j x hj)) (HSZ.out.2 k m ws hm) (fun x hx => Nat.le_trans (HWL.out k m ws hm x hx) (by decide)))
        have HOKK : Hid ((doL st ws).1 = 0 → runL St.none L = runL (doL st ws).2 (L.drop (k + 1))) := fun h => HX.out.trans (runL_ok' hm h)
        have HBAD : Hid ((doL st ws).1 ≠ 0 → runL St.none L = (Cfg.none, m, (doL st ws).1)) := fun h => HX.out.trans (runL_bad' hm h)
        unfold LinePost at KC
        obtain ⟨rr, hrr⟩ : ∃ rr, rr = doL st ws := ⟨_, rfl⟩
        rw [← hrr] at KC HOKK HBAD
        obtain ⟨re, hre⟩ : ∃ re, re = rr.1 := ⟨_, rfl⟩
        rw [← hre] at KC HOKK HBAD
        obtain ⟨nw, hnw⟩ : ∃ nw, nw = ws.length := ⟨_, rfl⟩
        rw [← hnw] at KC b2
        clear hrr hre hnw a1 a2 a3 hcell hm hne hcw hc2 e2 HX HNE HWL
        by_cases hz : re = 0
        · have HST := Lib.hid (HOKK.out hz)
          have t1 : ((re : Int) != 0) = false := by simp [hz]
          go_wp2_with fail
          refine KC.out.mono ?_
          rintro e w4 ⟨rfl, hr4, hb4⟩
          have HR4 := Lib.hid (hr4 hz)
          have HB4 := Lib.hid (HB.out.trans hb4)
          clear hr4 hb4 hz HOKK HBAD
          go_wp2
          go_roundw
          case rel => exact ⟨k + 1, rr.2, by omega, by go_num, HR4.out, HB4.out, HST.out⟩
          case measure => simp [intOf]; omega
        · have HPR := Lib.hid (HPO.out.trans (HBAD.out hz))
          have t1 : ((re : Int) != 0) = true := by simp; omega
          have k0 : (0 : Int) ≤ (k : Int) := by omega
          have k1 : (k : Int) < (L.length : Int) := by omega
          have hnr : g ≠ w.heap.size := HGW.out
          go_wp2_with fail
          refine KC.out.mono ?_
          rintro e w4 ⟨rfl, hr4, hb4⟩
          have HB4 : Hid (Below w.heap.size w w4) := HBR.out.trans (hb4.mono (Nat.le_of_lt HLT.out))
          have HR4 : Hid (w4.heap[w.heap.size]? = some (.cells #[.slice none 0 0, .int .i64 0, .int .i64 0, .int .i64 0, .int .i64 0, .int .i64 0] 24 (0, 0))) := (hb4.block _ HLT.out).trans HRR.out
          have lm : w4.cell? ⟨g, k * 2, none⟩ = some (.int .i64 (m : Int)) := (hb4.cell (p := ⟨g, k * 2, none⟩) hgb).trans b1
          clear hr4 hb4 hz HOKK HBAD b1 b2
          obtain ⟨z0, z1, z2, z3, z4, z5, zf⟩ := six_facts HR4.out
          have y0 := zf 0
          have y1 := zf 1
          have y2 := zf 2
          have y3 := zf 3
          have y4 := zf 4
          have y5 := zf 5
          clear zf
          go_wp2_with fail
          go_region
          all_goals
            clear y0 y1 y2 y3 y4 y5 z0 z1 z2 z3 z4 z5
            generalize hW6 : World.drew _ = W6
            have H6 := Lib.hid (six_all HR4.out HB4.out hW6)
            clear hW6
            go_wp2
            try simp only [Exit.inBlock, Exit.then]
            refine bodyPost_ret (results_cell3 rfl _ _ w.heap.size 24 _ (0, 0) _ rfl H6.out.1 Tryd.underlying24 rfl info24) rfl ?_
            exact pp_none HPR.out H6.out.2
      · have hfin := HX.out
        rw [List.drop_eq_nil_of_le (by omega), runL] at hfin
        have HF := Lib.hid (HPO.out.trans hfin)
        have kk : ¬ (k : Int) < (L.length : Int) := by omega
        clear hfin HX
        go_wp2
        go_loopw [11] (fun i wr' => ∃ j : Nat, j ≤ 5 ∧ i = .int .i64 j ∧ Hid (∀ i, i < j → bitOf st i = true) ∧ wr' = wr) (fun i _ => 5 - (intOf i).toNat)
        case atStart => exact ⟨0, by omega, rfl, fun i hi => absurd hi (by omega), by trivial⟩
        case round =>
          obtain ⟨j, hj, rfl, HJ, hwr⟩ := hrel
          subst hwr
          by_cases hj5 : j < 5
          · have hbit := bit_cell HR.out j hj5
            have j0 : (0 : Int) ≤ (j : Int) := by omega
            have j1 : (j : Int) < 5 := by omega
            have HLK := Lib.hid (fun h => HF.out.trans (fin_lack hj5 h))
            have HNX : Hid (bitOf st j = true → ∀ i, i < j + 1 → bitOf st i = true) := fun h i hi => by
              rcases Nat.lt_or_ge i j with h1 | h1
              · exact HJ.out i h1
              · obtain rfl : i = j := by omega
                exact h
            cases hb : bitOf st j with
            | true =>
              have HNY := Lib.hid (HNX.out hb)
              rw [hb] at hbit
              clear hb HNX HLK
              go_wp2
              go_roundw
              case rel => exact ⟨j + 1, by omega, by go_num, HNY, by trivial⟩
              case measure => simp [intOf]; omega
            | false =>
              have HPR := Lib.hid (HLK.out hb)
              rw [hb] at hbit
              clear hb HNX HLK
              go_wp2_with (refine wpList_store_res rfl 24 (.tmp 2) (.tmp 53) rfl w.heap.size _ rfl rfl 24 _ HRR.out info24 rfl (one6 _ _ _ _ _ _ _ _) ?_; intro W6 hW6 hb6 ho6; have HW6 := Lib.hid hW6; have HB6 := Lib.hid (hb6 _ _ HBR.out (Nat.le_refl _)); have HO6 := Lib.hid ho6; clear hW6 hb6 ho6)
              try simp only [Exit.inBlock, Exit.then]
              refine bodyPost_ret (results_cell3 rfl _ _ w.heap.size 24 _ (0, 0) _ rfl HW6.out Tryd.underlying24 rfl info24) rfl ?_
              exact pp_none HPR.out HB6.out
          · obtain rfl : j = 5 := by omega
            have hfa := fin_all HJ.out
            obtain ⟨A', cp', hcp', hb', hrow', c0, c1, c2, c3, c4, c5, hfz⟩ := HR.out.cell.facts
            have HROW := Lib.hid hrow'
            have KC := Lib.hid (rcheck_any _ st.c wr hrow'.ints (by have := HR.out.len; omega))
            unfold cval at KC
            have hbcr : bc < wr.heap.size := HR.out.cell.lt
            obtain ⟨x, hx⟩ : ∃ x, x = checkOf st.c := ⟨_, rfl⟩
            rw [← hx] at KC hfa
            obtain ⟨n2, hn2⟩ : ∃ n2, n2 = st.c.S.length := ⟨_, rfl⟩
            rw [← hn2] at KC c0 hcp' HROW
            have HBS : Hid (w.heap.size < wr.heap.size) := Nat.lt_trans HLT.out hbcr
            have HB00 : Hid (w.heap.size ≠ bc) := by have := HLT.out; show _ ≠ _; omega
            clear hb' hrow' hn2 hfz HJ
            by_cases hz : x = 0
            · have HPR : Hid (parseOf s.data.toList = (st.c, 0, 0)) := by
                show _ = _
                rw [HF.out, hfa, if_pos hz]
              subst hz
              clear hx hfa
              go_wp2_with (first
                | (go_at_call 12; refine KC.out.mono ?_; rintro e w4 ⟨rfl, hb4⟩; have e0 := (hb4.cell (p := ⟨bc, 0, none⟩) hbcr).trans c0; have e1 := (hb4.cell (p := ⟨bc, 1, none⟩) hbcr).trans c1; have e2 := (hb4.cell (p := ⟨bc, 2, none⟩) hbcr).trans c2; have e3 := (hb4.cell (p := ⟨bc, 3, none⟩) hbcr).trans c3; have e4 := (hb4.cell (p := ⟨bc, 4, none⟩) hbcr).trans c4; have e5 := (hb4.cell (p := ⟨bc, 5, none⟩) hbcr).trans c5; have HR4 := Lib.hid ((hb4.block w.heap.size HBS.out).trans HRR.out); have HB4 := Lib.hid (HBR.out.trans (hb4.mono (Nat.le_of_lt HBS.out))); have HRW4 := Lib.hid (HROW.out.below hb4 (Nat.le_refl _)); clear hb4)
                | (refine wpList_store_res rfl 24 (.tmp 2) (.tmp 60) rfl w.heap.size _ rfl rfl 24 _ HR4.out info24 rfl (one6 _ _ _ _ _ _ _ _) ?_; intro W6 hW6 hb6 ho6; have HW6 := Lib.hid hW6; have HB6 := Lib.hid (hb6 _ _ HB4.out (Nat.le_refl _)); have HO6 := Lib.hid ho6; clear hW6 hb6 ho6))
              try simp only [Exit.inBlock, Exit.then]
              refine bodyPost_ret (results_cell3 rfl _ _ w.heap.size 24 _ (0, 0) _ rfl HW6.out Tryd.underlying24 rfl info24) rfl ?_
              have hr6 : Row W6 w.heap.size (.slice A' n2 cp') st.c.S := by
                refine Row.base (row_other HRW4.out (fun j hj => HO6.out j (by have := HLT.out; omega))) (by have := HLT.out; omega)
              exact pp_of HPR.out hr6 HB6.out
            · have HPR : Hid (parseOf s.data.toList = (Cfg.none, 0, x)) := by
                show _ = _
                rw [HF.out, hfa, if_neg hz]
              have t2 : ((x : Int) != 0) = true := by simp; omega
              clear hx hz hfa
              go_wp2_with (first
                | (go_at_call 12; refine KC.out.mono ?_; rintro e w4 ⟨rfl, hb4⟩; have HR4 := Lib.hid ((hb4.block w.heap.size HBS.out).trans HRR.out); have HB4 := Lib.hid (HBR.out.trans (hb4.mono (Nat.le_of_lt HBS.out))); clear hb4)
                | (refine wpList_store_res rfl 24 (.tmp 2) (.tmp 58) rfl w.heap.size _ rfl rfl 24 _ HR4.out info24 rfl (one6 _ _ _ _ _ _ _ _) ?_; intro W6 hW6 hb6 ho6; have HW6 := Lib.hid hW6; have HB6 := Lib.hid (hb6 _ _ HB4.out (Nat.le_refl _)); have HO6 := Lib.hid ho6; clear hW6 hb6 ho6))
              try simp only [Exit.inBlock, Exit.then]
              refine bodyPost_ret (results_cell3 rfl _ _ w.heap.size 24 _ (0, 0) _ rfl HW6.out Tryd.underlying24 rfl info24) rfl ?_
              exact pp_none HPR.out HB6.out
end Go.Proofs.YtlbabhddjdhalaaDoor
