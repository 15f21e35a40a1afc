/- The document's Lines. -/
import Derived.Test.YtlbabhddjdhalaaDoorLines
import Derived.Test.YtlbabhddjdhalaaDoorRwords
namespace Go.Proofs.YtlbabhddjdhalaaDoor
open Go.RowKit Go.Proofs.Lx

theorem Tryd.info60 : (Tryd.prog.info? 79).map (fun i => (i.zero, i.size, i.bytes)) = some (some (.agg #[.int .i64 0, .slice none 0 0]), 2, 32) := by kernel_rfl
theorem str_mk (l : Bs) : ∃ p : ByteArray, Str l = .string p ∧ p.data.toList = l := ⟨⟨l.toArray⟩, rfl, by simp⟩

set_option maxRecDepth 100000 in
set_option maxHeartbeats 8000000 in
theorem rlines_any (s : ByteArray) (w : World) (hs : s.size ≤ 100000) :
    Calls Tryd.prog 34 #[.string s] w fun e w' => LinesPost 79 w s.data.toList e w' := by
  obtain ⟨i0, hi, hz0, hz1, hz2⟩ := info_parts Tryd.info60
  by_cases hlong : (65536 : Int) < (s.size : Int)
  · have HO := Lib.hid (out_long s.data.toList (by rw [len_eq]; omega))
    go_enter Tryd.func34, Tryd.ntmps34
    go_wp2
    go_ret3
    exact lp_of HO.out (IsLines.nil _ _ _) (Below.refl _ _)
  · have hno : ¬ 65536 < s.data.toList.length := by rw [len_eq]; omega
    have HNO := Lib.hid hno
    have KZ := Lib.hid (linesOf_sz s.data.toList)
    have hll := lines_le s
    have hl0 := linesOf_len s.data.toList
    clear hno
    obtain ⟨N, hN⟩ : ∃ N, N = (linesOf s.data.toList).length := ⟨_, rfl⟩
    have HN := Lib.hid hN
    have hN0 : 0 < N := by omega
    rw [← hN] at hll
    clear hN hl0
    go_enter Tryd.func34, Tryd.ntmps34
    go_wp2_with (go_at_call 56; refine (rcut_any s _ hs).mono ?_; rintro e wA ⟨vl, rfl, hsl, hbA⟩; have HSL := Lib.hid hsl; obtain ⟨gl, cl, rfl, hcl, hgl, hcells⟩ := hsl.at_ (by have := HN.out; omega); have KC := Lib.hid hcells; clear hcells hsl; rw [← HN.out] at hcl ⊢)
    go_loopw [6, 7] (fun v i wr => ∃ (k : Nat) (acc : List Ln), k ≤ N ∧ i = .int .i64 k ∧ acc.length ≤ k ∧ Hid (IsLines 79 wr wA.heap.size v acc) ∧ Below wA.heap.size wA wr ∧ Hid (res s.data.toList = linesFrom k acc ((linesOf s.data.toList).drop k))) (fun _ i _ => N - (intOf i).toNat)
    case atStart => exact ⟨0, [], Nat.zero_le _, rfl, Nat.le_refl _, IsLines.nil _ _ _, Below.refl _ _, rfl⟩
    case round =>
      obtain ⟨k, acc, hk, rfl, hal, HL, hbr, HR⟩ := hrel
      have hbw : Below w.heap.size w wr := hbA.trans (hbr.mono hbA.size)
      have hwrs := hbr.size
      by_cases hkN : k < N
      · have hkl : k < (linesOf s.data.toList).length := by have := HN.out; omega
        obtain ⟨p, hp0, hp2⟩ := str_mk (linesOf s.data.toList)[k]
        have hcell : wr.cell? ⟨gl, k, none⟩ = some (.string p) := by
          rw [← hp0]
          exact (hbr.cell (p := ⟨gl, k, none⟩) hgl).trans (KC.out k _ (List.getElem?_eq_getElem hkl))
        have hpz : p.size ≤ 100000 := by
          have := KZ.out _ (List.getElem_mem hkl)
          rw [← hp2, len_eq, len_eq] at this; omega
        have hst := HR.out
        rw [linesFrom_at k acc _ k hkl, ← hp2] at hst
        obtain ⟨cs, hown, hln⟩ := HL.out
        have HOW := Lib.hid hown
        have HLN := Lib.hid hln
        clear hown hln hp0 hp2 KC KZ HL HR hkl
        by_cases hpl : plainB (said p.data.toList) = true
        · rw [if_pos hpl] at hst
          have K28 : Hid (∀ (w' : World), Calls Tryd.prog 57 #[.string p] w' fun e w'' => ∃ v, e = .returned (.tuple #[v, .bool true]) ∧ Strs w'' w'.heap.size v (wordsOf (said p.data.toList)) ∧ Below w'.heap.size w' w'') := fun w' => by
            refine (rwords_any p w' hpz).mono ?_
            rintro e w'' ⟨v, h1, h2, h3⟩
            rw [rwd_words, if_pos hpl] at h1 h2
            exact ⟨v, h2, h1, h3⟩
          clear hpl
          obtain ⟨ws, hws⟩ : ∃ ws, ws = wordsOf (said p.data.toList) := ⟨_, rfl⟩
          rw [← hws] at hst K28
          have HST := Lib.hid hst
          clear hws hst
          by_cases hwn : ws = []
          · subst hwn
            go_wp2_with (go_at_call 57; refine (K28.out wr).mono ?_; rintro e w3 ⟨u, rfl, hu, hb3⟩; have HU := Lib.hid hu; obtain ⟨A, c, rfl, _⟩ := hu.len; clear hu)
            go_roundw
            case rel => exact ⟨k + 1, acc, by omega, by go_num, by omega, ⟨cs, own_below HOW.out hb3 (Nat.le_refl _), HLN.out.below hb3 (Nat.le_refl _)⟩, hbr.trans (hb3.mono hwrs), HST⟩
            case measure => simp [intOf]; omega
          · have hwl : (0 : Int) < (ws.length : Int) := by
              have := List.length_pos_iff.2 hwn; omega
            have HWN := Lib.hid hwn
            clear hwn
            go_wp2_with (first
              | (go_at_call 57; refine (K28.out wr).mono ?_; rintro e w3 ⟨u, rfl, hu, hb3⟩; have HU : Hid (Strs w3 wA.heap.size u ws) := hu.base hwrs; obtain ⟨A, c, rfl, _⟩ := hu.len; clear hu; have H3 : Hid (w3.ownsRow wA.heap.size 79 2 _ acc.length cs) := own_below HOW.out hb3 (Nat.le_refl _); have hs3 := hb3.size)
              | (at_builtin; refine wpList_append_own _ rfl (.tmp 36) (.tmp 41) 73 rfl wA.heap.size 79 i0 (.agg #[.int .i64 0, .slice none 0 0]) 2 32 Tryd.underlying73 hi hz0 hz1 hz2 rfl (by decide) _ _ _ rfl (H3.out.alloc _) ⟨w3.heap.size, 0, none⟩ 1 1 [.int .i64 ((k : Int) + 1), .slice A ws.length c] rfl rfl (cell_two _ _ _ _) (two_ok _ _ _ _) (by unfold maxLen; omega) (by omega) (by simp; omega) ?_; intro v' w4 hown' hgrow _))
            have hL4 := lines_after (by decide) H3.out (HLN.out.below hb3 (Nat.le_refl _)) HU.out (k := k + 1) (by exact hown') hgrow
            have hb4 : Below wA.heap.size wr w4 := Below.grown ((hb3.mono hwrs).alloc (by omega) _) hgrow (by simp; omega) (fun q hq => (H3.out.lt q hq).1)
            have e : addL acc k ws = acc ++ [(k + 1, ws)] := if_neg HWN.out
            have HST2 := HST.out
            rw [e] at HST2
            go_roundw
            case rel => exact ⟨k + 1, acc ++ [(k + 1, ws)], by omega, by go_num, by simp; omega, hL4, hbr.trans hb4, HST2⟩
            case measure => simp [intOf]; omega
        · rw [if_neg hpl] at hst
          have K28 : Hid (∀ (w' : World), Calls Tryd.prog 57 #[.string p] w' fun e w'' => ∃ v, e = .returned (.tuple #[v, .bool false]) ∧ Below w'.heap.size w' w'') := fun w' => by
            refine (rwords_any p w' hpz).mono ?_
            rintro e w'' ⟨v, h1, h2, h3⟩
            rw [rwd_words, if_neg hpl] at h2
            exact ⟨v, h2, h3⟩
          have HO := Lib.hid (out_wrong s.data.toList HNO.out hst)
          clear hpl hst
          go_wp2_with (go_at_call 57; refine (K28.out wr).mono ?_; rintro e w3 ⟨u, rfl, hb3⟩)
          go_ret3
          exact lp_of HO.out (IsLines.nil _ _ _) (hbw.trans (hb3.mono hbw.size))
      · obtain rfl : k = N := by omega
        have hr := HR.out
        rw [List.drop_eq_nil_of_le (by have := HN.out; omega)] at hr
        have HO := Lib.hid (out_good s.data.toList HNO.out hr)
        clear hr HR KC KZ
        go_wp2
        go_ret3
        exact lp_of HO.out (HL.out.base hbA.size) hbw
end Go.Proofs.YtlbabhddjdhalaaDoor
