/- MedianKinds' walk. -/
import Derived.Test.YtjjcoblbiagflaaGreatStp
namespace Go.Proofs.YtjjcoblbiagflaaGreat
open Go.RowKit Go.Sort

set_option maxRecDepth 100000 in
set_option maxHeartbeats 1500000 in
theorem walk_kinds (A0 : Option Addr) (n0 c0 : Nat) (w : World) (hz0 : IntsIn .i16 w A0 n0 c0) :
    Calls Tryz.prog 3 #[.slice A0 n0 c0] w fun e w' => e = .returned (.bool true) ∧ Below w.heap.size w w' := by
  obtain ⟨l1, l2, xs, hl, hwx, hx, hn⟩ := hz0
  obtain ⟨ls, hls⟩ := i16s xs hwx
  have m1 : c0 ≤ 9223372036854775807 := by unfold maxLen at l2; omega
  have X := Lib.hid (And.intro hl (And.intro hx (And.intro hn hls)))
  clear hl hwx hx hn l2 hls
  go_enter Tryz.func3, Tryz.ntmps3
  go_wp2_with fail
  refine (alive_any w).mono ?_
  rintro e w1 ⟨rfl, hb1⟩
  have H1 := Lib.hid hb1
  clear hb1
  by_cases q1 : 100 < n0
  · go_wp2_with fail
    refine (alive_any _).mono ?_
    rintro e w2 ⟨rfl, hb2⟩
    have H2 := Lib.hid (bel_trans H1.out hb2)
    clear hb2 H1
    go_wp2
    go_ret
    exact ⟨rfl, H2.out⟩
  have q2 : n0 ≤ 100 := by omega
  have hd0 : decide ((100 : Int) < (n0 : Int)) = false := decide_eq_false (by omega)
  go_wp2_with fail
  go_loopw [3, 4, 5, 27] (fun v3 v4 v5 v27 wr => ∃ (i : Nat) (us : List UInt8), i ≤ n0 ∧ v27 = .int .i64 (i : Int) ∧ us.length = i ∧ Hid (Below w.heap.size w wr ∧ wr.ownsRow w.heap.size 2 1 v3 i ((xs.take i).map I) ∧ wr.ownsRow w.heap.size 28 1 v4 i ((ls.take i).map kf.enc) ∧ wr.ownsRow w.heap.size 5 1 v5 i (us.map ku.enc) ∧ Apart v3 v4 ∧ Apart v3 v5 ∧ Apart v4 v5)) (fun _ _ _ s27 _ => n0 - (intOf s27).toNat)
  case atStart => exact ⟨0, [], Nat.zero_le _, rfl, rfl, Lib.hid ⟨H1.out, ⟨by simp, .inl ⟨rfl, rfl⟩⟩, ⟨by simp, .inl ⟨rfl, rfl⟩⟩, ⟨by simp, .inl ⟨rfl, rfl⟩⟩, apart_nil _, apart_nil _, apart_nil _⟩⟩
  case round =>
    clear H1
    obtain ⟨i, us, hi, rfl, hus, R⟩ := hrel
    by_cases hin : i < n0
    · obtain ⟨y, hy⟩ : ∃ y, ls[i]? = some y := ⟨_, List.getElem?_eq_getElem (by have := X.out.1; rw [← X.out.2.2.2, List.length_map] at this; omega)⟩
      have hx : xs[i]? = some y.toInt := by rw [← X.out.2.2.2, List.getElem?_map, hy]; rfl
      obtain ⟨z, hz⟩ : ∃ z, y.toInt = z := ⟨_, rfl⟩
      obtain ⟨g, o, rfl, hcell⟩ := ((X.out.2.1).later R.out.1).cell (k := i) (v := .int .i16 z) (by rw [List.getElem?_map, hx, hz]; rfl)
      have hzb : -32768 ≤ z ∧ z ≤ 32767 := by have h1 := y.le_toInt; have h2 := y.toInt_lt; omega
      obtain ⟨u, hu⟩ := u8_enc (bits .and .i16 z 127)
      have E := Lib.hid (show kf.enc y = .float .f64 (floatOfInt .f64 z) ∧ ku.enc u = .int .u8 (IntKind.u8.wrap (bits .and .i16 z 127)) ∧ xs.take i ++ [z] = xs.take (i + 1) ∧ ls.take i ++ [y] = ls.take (i + 1) from ⟨by rw [← hz]; rfl, hu, by rw [List.take_add_one, hx, hz]; rfl, by rw [List.take_add_one, hy]; rfl⟩)
      have hd1 : decide ((i : Int) < (n0 : Int)) = true := decide_eq_true (by omega)
      clear hy hx hz hu
      go_wp2_with (first
        | (at_builtin; refine app_i rfl (.tmp 31) (.tmp 34) rfl w.heap.size _ i (xs.take i) rfl (own_below R.out.2.1 (bel_alloc wr _) (Nat.le_refl _)) (some ⟨wr.heap.size, 0, none⟩) 1 1 [z] rfl rfl (fun h => by cases h) (lies_new wr _ _) (by omega) (Nat.le_trans R.out.1.size (bel_alloc _ _).size) ?_; intro v3 w3 k1 k2 k3; have R1 := Lib.hid (And.intro k1 (three_step R.out.1 (Nat.le_refl _) R.out.2.1 R.out.2.2.1 R.out.2.2.2.1 R.out.2.2.2.2.1 R.out.2.2.2.2.2.1 k2 k3)); have RA := Lib.hid R.out.2.2.2.2.2.2; clear k1 k2 k3 R)
        | (at_builtin; refine kf.app_any rfl (.tmp 36) (.tmp 39) rfl w.heap.size _ i (ls.take i) rfl (own_below R1.out.2.2.1 (bel_alloc w3 _) (Nat.le_refl _)) (some ⟨w3.heap.size, 0, none⟩) 1 1 [y] rfl rfl (fun h => by cases h) (by rw [List.map_cons, E.out.1]; exact lies_new w3 _ _) (by omega) (Nat.le_trans R1.out.2.1.size (bel_alloc _ _).size) ?_; intro v4 w4 k1 k2 k3; have R2 := Lib.hid (And.intro k1 (three_step R1.out.2.1 (Nat.le_refl _) R1.out.2.2.1 R1.out.1 R1.out.2.2.2.1 R1.out.2.2.2.2.1.symm RA.out k2 k3)); have RB := Lib.hid R1.out.2.2.2.2.2; clear k1 k2 k3 R1 RA)
        | (at_builtin; refine ku.app_any rfl (.tmp 41) (.tmp 45) rfl w.heap.size _ i us rfl (own_below R2.out.2.2.2.1 (bel_alloc w4 _) (Nat.le_refl _)) (some ⟨w4.heap.size, 0, none⟩) 1 1 [u] rfl rfl (fun h => by cases h) (by rw [List.map_cons, E.out.2.1]; exact lies_new w4 _ _) (by omega) (Nat.le_trans R2.out.2.1.size (bel_alloc _ _).size) ?_; intro v5 w5 k1 k2 k3; have R3 := Lib.hid (And.intro k1 (three_step R2.out.2.1 (Nat.le_refl _) R2.out.2.2.2.1 R2.out.2.2.1 R2.out.1 RB.out.symm R2.out.2.2.2.2.2.symm k2 k3)); have RC := Lib.hid R2.out.2.2.2.2.1; clear k1 k2 k3 R2 RB))
      go_roundw
      case rel => exact ⟨i + 1, us ++ [u], by omega, by go_num, by simp [hus], Lib.hid ⟨R3.out.2.1, by rw [← E.out.2.2.1]; exact R3.out.2.2.1, by rw [← E.out.2.2.2]; exact R3.out.2.2.2.1, R3.out.1, RC.out.symm, R3.out.2.2.2.2.1.symm, R3.out.2.2.2.2.2.symm⟩⟩
      case measure => simp [intOf]; omega
    · obtain rfl : i = n0 := by omega
      have e1 : xs.take i = xs := List.take_of_length_le (by have := X.out.1; omega)
      have hls : ls.length = i := by have := X.out.1; rw [← X.out.2.2.2, List.length_map] at this; exact this
      have e2 : ls.take i = ls := List.take_of_length_le (by omega)
      obtain ⟨hb, o3, o4, o5, _, _, _⟩ := R.out
      rw [e1] at o3
      rw [e2] at o4
      clear R e1 e2
      obtain ⟨A3, c3, rfl, hc3, hm3⟩ := own_len o3
      obtain ⟨A4, c4, rfl, hc4, hm4⟩ := own_len o4
      obtain ⟨A5, c5, rfl, hc5, hm5⟩ := own_len o5
      unfold maxLen at hm3 hm4 hm5
      have HB := Lib.hid hb
      by_cases h0 : i = 0
      · subst h0
        have hf : (FloatKind.f64.format.order (floatOfInt .f64 0) 0 == some .eq) = true := by decide +kernel
        clear o3 o4 o5 hb
        go_wp2_with fail
        refine (of_none_i _ _ _).mono ?_
        rintro e w2 ⟨rfl, rfl⟩
        go_wp2_with fail
        refine (kf.of_none _ _ _).mono ?_
        rintro e w3 ⟨rfl, rfl⟩
        go_wp2_with fail
        refine (ku.of_none _ _ _).mono ?_
        rintro e w4 ⟨rfl, rfl⟩
        go_wp2_with fail
        refine (spread16_none _ _ _).mono ?_
        rintro e w5 ⟨rfl, rfl⟩
        go_wp2
        go_ret
        exact ⟨by first | rfl | simp, HB.out⟩
      · have K := of_i (w := wr) (Ad := A3) (c := c3) xs (by rw [X.out.1]; omega) (by rw [X.out.1]; omega) (lies_own o3)
        have hmem := mid_mem xs (by rw [X.out.1]; omega)
        rw [show mid xs = (xs.mergeSort leI).getD ((xs.length - 1) / 2) 0 from rfl] at hmem
        rw [X.out.1] at K hmem
        obtain ⟨m, hm⟩ : ∃ m, (xs.mergeSort leI).getD ((i - 1) / 2) 0 = m := ⟨_, rfl⟩
        rw [hm] at K hmem
        have HK := Lib.hid K
        have HM := Lib.hid (And.intro hm hmem)
        have L4 := Lib.hid (lies_own o4)
        have L5 := Lib.hid (lies_own o5)
        have hmr : -32768 ≤ m ∧ m ≤ 32767 := by
          rw [← X.out.2.2.2] at hmem
          obtain ⟨y, _, rfl⟩ := List.mem_map.1 hmem
          have h1 := y.le_toInt; have h2 := y.toInt_lt; omega
        have hf : (FloatKind.f64.format.order (floatOfInt .f64 m) (floatOfInt .f64 m) == some .eq) = true := by
          rw [show FloatKind.f64.format.order (floatOfInt .f64 m) (floatOfInt .f64 m) = some (compare m m) from kf.order_near m m (by omega) (by omega) (by omega) (by omega)]; simp
        obtain ⟨F, hF⟩ : ∃ F, floatOfInt .f64 m = F := ⟨_, rfl⟩
        rw [hF] at hf
        have HF := Lib.hid hf
        have HFm := Lib.hid hF
        clear K hm hmem o3 o4 o5 hb hf hF
        go_wp2_with fail
        refine HK.out.mono ?_
        rintro e w2 ⟨rfl, b2⟩
        have B2 := Lib.hid (bel_trans HB.out b2)
        obtain ⟨g4, q4, rfl, _, hc4'⟩ := (L4.out.later b2).open (by simp; omega)
        have L5b := Lib.hid (L5.out.later b2)
        have K4 := Lib.hid (kf.of_any (w := w2) (c := c4) ls hls (by omega) (by omega) hc4')
        clear HK HB b2 L4 L5 hc4'
        go_wp2_with fail
        refine K4.out.mono ?_
        rintro e w3 ⟨D, d1, d2, rfl, b3⟩
        rw [show kf.enc D[(i - 1) / 2]! = .float .f64 F from by rw [← HFm.out, ← HM.out.1, ← X.out.2.2.2, ← mid_float hls d1 d2 (by omega)]; rfl]
        have B3 := Lib.hid (bel_trans B2.out b3)
        obtain ⟨g5, q5, rfl, _, hc5'⟩ := (L5b.out.later b3).open (by simp; omega)
        have K5 := Lib.hid (ku.of_any (w := w3) (c := c5) us hus (by omega) (by omega) hc5')
        clear K4 B2 b3 L5b hc5' d1 d2
        go_wp2_with fail
        refine K5.out.mono ?_
        rintro e w4 ⟨D5, d1, d2, rfl, b4⟩
        obtain ⟨y5, hy5⟩ := ku.enc_ex D5[(i - 1) / 2]!
        rw [hy5]
        have B4 := Lib.hid (bel_trans B3.out b4)
        clear K5 B3 b4 d1 d2 hy5
        obtain ⟨g, o, rfl, _, hc0⟩ := (X.out.2.1.later B4.out).open (by simp [X.out.1]; omega)
        have K60 := Lib.hid (spread16 (w := w4) (c := c0) (n := i) (fun j => xs.getD j 0) (by omega) (by omega) (fun j hj => hc0 j _ (map_getD _ xs j 0 (by rw [X.out.1]; exact hj))) (fun j hj => by
          show -32768 ≤ xs.getD j 0 ∧ xs.getD j 0 ≤ 32767
          rw [← X.out.2.2.2, List.getD_eq_getElem?_getD, List.getElem?_map, List.getElem?_eq_getElem (show j < ls.length by omega)]
          have h1 := (ls[j]'(by omega)).le_toInt; have h2 := (ls[j]'(by omega)).toInt_lt
          simp only [Option.map_some, Option.getD_some]
          omega))
        clear hc0
        obtain ⟨j, hj, hjm⟩ := List.getElem_of_mem HM.out.2
        have hjg : xs.getD j 0 = m := by simp only [List.getD_eq_getElem?_getD, List.getElem?_eq_getElem hj, Option.getD_some, hjm]
        have K6 := Lib.hid (K60.out.mono (R' := fun e w' => (∃ lo hi', e = .returned (.tuple #[.int .i16 lo, .int .i16 hi', .int .i64 0]) ∧ -32768 ≤ lo ∧ lo ≤ 32767 ∧ -32768 ≤ hi' ∧ hi' ≤ 32767 ∧ lo ≤ m ∧ m ≤ hi') ∧ w' = w4) fun e w' h => by
          obtain ⟨⟨lo, hi', he, r1, r2, hall⟩, hw⟩ := h
          have h1 := hall j (by rw [← X.out.1]; exact hj)
          rw [hjg] at h1
          exact ⟨⟨lo, hi', he, r1.1, r1.2, r2.1, r2.2, h1.1, h1.2⟩, hw.symm⟩)
        clear K60 hjg hjm hj
        go_wp2_with fail
        refine K6.out.mono ?_
        rintro e w5 ⟨⟨lo, hi', rfl, r1, r2, r3, r4, r5, r6⟩, rfl⟩
        have hda : decide (lo ≤ m) = true := decide_eq_true r5
        have hdb : decide (m ≤ hi') = true := decide_eq_true r6
        have hf := HF.out
        have hF := HFm.out
        clear K6
        go_wp2
        go_ret
        exact ⟨by first | rfl | simp, B4.out⟩
end Go.Proofs.YtjjcoblbiagflaaGreat
