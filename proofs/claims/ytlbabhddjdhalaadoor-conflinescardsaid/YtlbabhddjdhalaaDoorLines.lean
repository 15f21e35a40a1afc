/- Lines: the lines of a text that have words; of the first one that is wrong, its number. -/
import Derived.Test.YtlbabhddjdhalaaDoorSplit
import Derived.Test.YtlbabhddjdhalaaDoorBridge
namespace Go.Proofs.YtlbabhddjdhalaaDoor
open Go.RowKit Go.Proofs.Lx

/-- What the library's search asks: its bound is there. -/
def Mx (w : World) : Prop := ∃ m : Int, w.cell? ⟨0, 0, none⟩ = some (.int .i64 m)
theorem Mx.below {w w' : World} {B : Nat} (h : Mx w) (hb : Below B w w') (hB : w.heap.size ≤ B) : Mx w' := by
  obtain ⟨m, hm⟩ := h
  have := World.block_lt_of_cell? _ _ hm
  exact ⟨m, (hb.cell (p := ⟨0, 0, none⟩) (by simp at this ⊢; omega)).trans hm⟩
theorem Mx.alloc {w : World} (h : Mx w) (o : Obj) : Mx (w.alloc o) := h.below ((Below.refl _ _).alloc (Nat.le_refl _) _) (Nat.le_refl _)

theorem cut_any (s : ByteArray) (w : World) (hs : s.size ≤ 100000) (hm : Mx w) :
    Calls Tryd.prog 45 #[.string s, .string ⟨#[35]⟩] w fun e w' => ∃ (sd : ByteArray) (a b : Value), e = .returned (.tuple #[.string sd, a, b]) ∧ Hid (sd.data.toList = said s.data.toList) ∧ Below w.heap.size w w' := by
  obtain ⟨m, hm⟩ := hm
  refine (Tryd.strings_Cut s ⟨#[35]⟩ m w (by omega) hm).mono ?_
  rintro e w' ⟨rfl, n, rfl⟩
  refine ⟨_, _, _, rfl, ?_, ⟨rfl, rfl, rfl, Nat.le_refl _, fun _ _ => rfl⟩⟩
  show ((Lib.cut s.data.toList [35]).1.toArray).toList = _
  rw [said_lib]

theorem Tryd.info41 : (Tryd.prog.info? 69).map (fun i => (i.zero, i.size, i.bytes)) = some (some (.agg #[.int .i64 0, .slice none 0 0]), 2, 32) := by kernel_rfl

def LinesPost (T : TypeId) (w : World) (t : Bs) (e : Ending) (w' : World) : Prop :=
  ∃ v, IsLines T w' w.heap.size v (outOf t).1 ∧ e = .returned (.tuple #[v, .int .i64 ((outOf t).2.1 : Nat), .int .i64 ((outOf t).2.2 : Nat)]) ∧ Below w.heap.size w w'
theorem lp_of {T : TypeId} {w w' : World} {t : Bs} {v : Value} {L : List Ln} {n k : Nat} (h : outOf t = (L, n, k)) (hv : IsLines T w' w.heap.size v L) (hb : Below w.heap.size w w') : LinesPost T w t (.returned (.tuple #[v, .int .i64 (n : Nat), .int .i64 (k : Nat)])) w' := by
  refine ⟨v, by rw [h]; exact hv, by rw [h], hb⟩
theorem two_ok (k : Int) (A : Option Addr) (n c : Nat) : ∀ u ∈ [Value.int .i64 k, .slice A n c], u.oneCell' = true := fun u hu => by
  simp at hu; rcases hu with rfl | rfl <;> rfl
theorem piece_at (s : ByteArray) (k : Nat) (h : k < (linesOf s.data.toList).length) : ∃ p : ByteArray, (Lib.splitB ⟨#[10]⟩ 0 (Lib.countB s ⟨#[10]⟩) s)[k]? = some p ∧ p.data.toList = (linesOf s.data.toList)[k] := by
  have e := lines_lib s
  have hl : k < (Lib.splitB ⟨#[10]⟩ 0 (Lib.countB s ⟨#[10]⟩) s).length := by rw [← e] at h; simpa using h
  refine ⟨_, List.getElem?_eq_getElem hl, ?_⟩
  simp only [← e, List.getElem_map]
theorem pieces_len (s : ByteArray) : Lib.countB s ⟨#[10]⟩ + 1 = (linesOf s.data.toList).length := by
  rw [linesOf_len]
  show Lib.count s.data.toList [10] + 1 = _
  rw [Lib.count_one]
theorem lines_le (s : ByteArray) : (linesOf s.data.toList).length ≤ s.size + 1 := by
  rw [linesOf_len, ← len_eq]
  have := List.count_le_length (a := (10 : UInt8)) (l := s.data.toList)
  omega

set_option maxRecDepth 100000 in
set_option maxHeartbeats 8000000 in
theorem lines_any (s : ByteArray) (w : World) (hs : s.size ≤ 100000) (hm : Mx w) :
    Calls Tryd.prog 32 #[.string s] w fun e w' => LinesPost 69 w s.data.toList e w' := by
  obtain ⟨i0, hi, hz0, hz1, hz2⟩ := info_parts Tryd.info41
  by_cases hlong : (65536 : Int) < (s.size : Int)
  · have HO := Lib.hid (out_long s.data.toList (by rw [len_eq]; omega))
    go_enter Tryd.func32, Tryd.ntmps32
    go_wp2
    go_ret3
    exact lp_of HO.out (IsLines.nil _ _ _) (Below.refl _ _)
  · have hno : ¬ 65536 < s.data.toList.length := by rw [len_eq]; omega
    have HNO := Lib.hid hno
    have HMX := Lib.hid hm
    have KS : Hid (Calls Tryd.prog 19 #[.string s, .string ⟨#[10]⟩] w fun e w' => e = .returned (.slice (some ⟨w.heap.size, 0, none⟩) (linesOf s.data.toList).length (linesOf s.data.toList).length) ∧ w' = w.alloc (.cells ((Lib.splitB ⟨#[10]⟩ 0 (Lib.countB s ⟨#[10]⟩) s).map Value.string).toArray 9)) := by
      obtain ⟨m, hm⟩ := hm
      rw [← pieces_len]
      exact Tryd.strings_Split s ⟨#[10]⟩ m w (by omega) hm (by decide)
    have KP := Lib.hid (piece_at s)
    have KZ := Lib.hid (linesOf_sz s.data.toList)
    have hll := lines_le s
    clear hno hm
    obtain ⟨N, hN⟩ : ∃ N, N = (linesOf s.data.toList).length := ⟨_, rfl⟩
    have HN := Lib.hid hN
    rw [← hN] at KS hll
    clear hN
    go_enter Tryd.func32, Tryd.ntmps32
    go_wp2_with (go_at_call 19; refine KS.out.mono ?_; rintro e wA ⟨rfl, hwA⟩; have HWA := Lib.hid hwA; clear hwA)
    have hszA : wA.heap.size = w.heap.size + 1 := by rw [HWA.out]; simp
    have hbA : Below w.heap.size w wA := by rw [HWA.out]; exact (Below.refl _ _).alloc (Nat.le_refl _) _
    have HMA : Hid (Mx wA) := HMX.out.below hbA (Nat.le_refl _)
    have KA : Hid (∀ (k : Nat) (p : ByteArray), (Lib.splitB ⟨#[10]⟩ 0 (Lib.countB s ⟨#[10]⟩) s)[k]? = some p → wA.cell? ⟨w.heap.size, k, none⟩ = some (.string p)) := fun k p hp => by
      rw [HWA.out]; simp [hp]
    clear HWA KS HMX
    have HSZ := Lib.hid hszA
    clear hszA
    go_loopw [5, 18] (fun v i wr => ∃ (k : Nat) (acc : List Ln), k ≤ N ∧ i = .int .i64 k ∧ acc.length ≤ k ∧ Hid (IsLines 69 wr (w.heap.size + 1) v acc) ∧ Below (w.heap.size + 1) wA wr ∧ Hid (res s.data.toList = linesFrom k acc ((linesOf s.data.toList).drop k))) (fun _ i _ => N - (intOf i).toNat)
    case atStart => exact ⟨0, [], Nat.zero_le _, rfl, Nat.le_refl _, IsLines.nil _ _ _, Below.refl _ _, rfl⟩
    case round =>
      obtain ⟨k, acc, hk, rfl, hal, HL, hbr, HR⟩ := hrel
      have hbw : Below w.heap.size w wr := hbA.trans (hbr.mono (by omega))
      have hwrs : w.heap.size + 1 ≤ wr.heap.size := by have := hbr.size; have := HSZ.out; omega
      by_cases hkN : k < N
      · obtain ⟨p, hp1, hp2⟩ := KP.out k (by have := HN.out; omega)
        have hcell : wr.cell? ⟨w.heap.size, k, none⟩ = some (.string p) := (hbr.cell (p := ⟨w.heap.size, k, none⟩) (by simp)).trans (KA.out k p hp1)
        have hpz : p.size ≤ 100000 := by
          have := KZ.out _ (List.getElem_mem (l := linesOf s.data.toList) (n := k) (by have := HN.out; omega))
          rw [← hp2, len_eq, len_eq] at this; omega
        have hst := HR.out
        rw [linesFrom_at k acc _ k (by have := HN.out; omega), ← hp2] at hst
        obtain ⟨cs, hown, hln⟩ := HL.out
        have HOW := Lib.hid hown
        have HLN := Lib.hid hln
        have HMR : Hid (Mx wr) := HMA.out.below hbr (by have := HSZ.out; omega)
        have HZ : Hid (∀ sd : ByteArray, sd.data.toList = said p.data.toList → sd.size ≤ 100000) := fun sd h => by
          have := said_sz p.data.toList
          rw [← h, len_eq, len_eq] at this; omega
        clear hown hln hp1 hp2 KP KA KZ HL HR
        by_cases hpl : plainB (said p.data.toList) = true
        · rw [if_pos hpl] at hst
          have K25 : Hid (∀ (sd : ByteArray) (w' : World), sd.data.toList = said p.data.toList → Calls Tryd.prog 46 #[.string sd] w' fun e w'' => e = .returned (.bool true) ∧ Below w'.heap.size w' w'') := fun sd w' h => by
            have := plain_any sd w'
            rw [h, hpl] at this
            exact this
          have K26 : Hid (∀ (sd : ByteArray) (w' : World), sd.data.toList = said p.data.toList → Calls Tryd.prog 47 #[.string sd] w' fun e w'' => ∃ v, e = .returned v ∧ Strs w'' w'.heap.size v (wordsOf (said p.data.toList)) ∧ Below w'.heap.size w' w'') := fun sd w' h => by
            have := split_any sd w' (HZ.out sd h) (by rw [h]; exact hpl)
            rw [h] at this
            exact this
          clear hpl
          obtain ⟨ws, hws⟩ : ∃ ws, ws = wordsOf (said p.data.toList) := ⟨_, rfl⟩
          rw [← hws] at hst K26
          have HST := Lib.hid hst
          clear hws hst
          by_cases hwn : ws = []
          · subst hwn
            go_wp2_with (first
              | (go_at_call 45; refine (cut_any p wr hpz HMR.out).mono ?_; rintro e w1 ⟨sd, a, b, rfl, HSD, hb1⟩)
              | (go_at_call 46; refine (K25.out sd w1 HSD.out).mono ?_; rintro e w2 ⟨rfl, hb2⟩)
              | (go_at_call 47; refine (K26.out sd w2 HSD.out).mono ?_; rintro e w3 ⟨u, rfl, hu, hb3⟩; have HU := Lib.hid hu; obtain ⟨A, c, rfl, _⟩ := hu.len; clear hu))
            have h13 : Below wr.heap.size wr w3 := (hb1.trans (hb2.mono hb1.size)).trans (hb3.mono (Nat.le_trans hb1.size hb2.size))
            go_roundw
            case rel => exact ⟨k + 1, acc, by omega, by go_num, by omega, ⟨cs, own_below HOW.out h13 (Nat.le_refl _), HLN.out.below h13 (Nat.le_refl _)⟩, hbr.trans (h13.mono hwrs), HST⟩
            case measure => simp [intOf]; omega
          · have hwl : (0 : Int) < (ws.length : Int) := by
              have := List.length_pos_iff.2 hwn; omega
            have HWN := Lib.hid hwn
            clear hwn
            go_wp2_with (first
              | (go_at_call 45; refine (cut_any p wr hpz HMR.out).mono ?_; rintro e w1 ⟨sd, a, b, rfl, HSD, hb1⟩)
              | (go_at_call 46; refine (K25.out sd w1 HSD.out).mono ?_; rintro e w2 ⟨rfl, hb2⟩)
              | (go_at_call 47; refine (K26.out sd w2 HSD.out).mono ?_; rintro e w3 ⟨u, rfl, hu, hb3⟩; have h13 : Below wr.heap.size wr w3 := (hb1.trans (hb2.mono hb1.size)).trans (hb3.mono (Nat.le_trans hb1.size hb2.size)); have HU : Hid (Strs w3 (w.heap.size + 1) u ws) := hu.base (by have := hb1.size; have := hb2.size; omega); obtain ⟨A, c, rfl, _⟩ := hu.len; clear hu; have H3 : Hid (w3.ownsRow (w.heap.size + 1) 69 2 _ acc.length cs) := own_below HOW.out h13 (Nat.le_refl _); have hs3 := h13.size)
              | (at_builtin; refine wpList_append_own _ rfl (.tmp 39) (.tmp 44) 61 rfl (w.heap.size + 1) 69 i0 (.agg #[.int .i64 0, .slice none 0 0]) 2 32 Tryd.underlying61 hi hz0 hz1 hz2 rfl (by decide) _ _ _ rfl (H3.out.alloc _) ⟨w3.heap.size, 0, none⟩ 1 1 [.int .i64 ((k : Int) + 1), .slice A ws.length c] rfl rfl (cell_two _ _ _ _) (two_ok _ _ _ _) (by unfold maxLen; omega) (by omega) (by simp; omega) ?_; intro v' w4 hown' hgrow _))
            have hL4 := lines_after (by decide) H3.out (HLN.out.below h13 (Nat.le_refl _)) HU.out (k := k + 1) (by exact hown') hgrow
            have hb4 : Below (w.heap.size + 1) wr w4 := Below.grown ((h13.mono hwrs).alloc (by omega) _) hgrow (by simp; omega) (fun q hq => (H3.out.lt q hq).1)
            have e : addL acc k ws = acc ++ [(k + 1, ws)] := if_neg HWN.out
            have HST2 := HST.out
            rw [e] at HST2
            go_roundw
            case rel => exact ⟨k + 1, acc ++ [(k + 1, ws)], by omega, by go_num, by simp; omega, hL4, hbr.trans hb4, HST2⟩
            case measure => simp [intOf]; omega
        · rw [if_neg hpl] at hst
          have K25 : Hid (∀ (sd : ByteArray) (w' : World), sd.data.toList = said p.data.toList → Calls Tryd.prog 46 #[.string sd] w' fun e w'' => e = .returned (.bool false) ∧ Below w'.heap.size w' w'') := fun sd w' h => by
            have := plain_any sd w'
            rw [h, show plainB (said p.data.toList) = false by simpa using hpl] at this
            exact this
          have HO := Lib.hid (out_wrong s.data.toList HNO.out hst)
          clear hpl hst
          go_wp2_with (first
            | (go_at_call 45; refine (cut_any p wr hpz HMR.out).mono ?_; rintro e w1 ⟨sd, a, b, rfl, HSD, hb1⟩)
            | (go_at_call 46; refine (K25.out sd w1 HSD.out).mono ?_; rintro e w2 ⟨rfl, hb2⟩))
          go_ret3
          have h12 : Below wr.heap.size wr w2 := hb1.trans (hb2.mono hb1.size)
          exact lp_of HO.out (IsLines.nil _ _ _) (hbw.trans (h12.mono (by omega)))
      · obtain rfl : k = N := by omega
        have hr := HR.out
        rw [List.drop_eq_nil_of_le (by have := HN.out; omega)] at hr
        have HO := Lib.hid (out_good s.data.toList HNO.out hr)
        clear hr HR KP KA KZ
        go_wp2
        go_ret3
        exact lp_of HO.out (HL.out.base (by omega)) hbw
end Go.Proofs.YtlbabhddjdhalaaDoor
