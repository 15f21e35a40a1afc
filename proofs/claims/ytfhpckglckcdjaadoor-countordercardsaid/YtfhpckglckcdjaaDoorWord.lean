/- CountOrder: in whatever order reasons come, counts are the same; with one more they aren't. -/
import Derived.Test.YtfhpckglckcdjaaDoorRm
import Derived.ProofKit
import Derived.BigQuiet
namespace Go.Proofs.YtfhpckglckcdjaaDoor
open Go.RowKit Go.Proofs.Lx Go.ChangeShapes Go.WideShapes

def In0 (w : World) (v : Value) : Prop := ∃ xs, NumsN .u8 w v xs
def In1 (w : World) (v : Value) : Prop := ∃ xs, NumsN .u16 w v xs
theorem open_in0 {H : Type} {enc : TypeId × Value → H} {w : World} {base b0 : Nat} {spare : Nat → Bool} {held : Bool} {v : Value} {d : DataW H} {ps : List MemPlace}
    (hv : Value.okWide Tryd.prog w .any b0 36 v) (h : DataW.Trod enc Tryd.prog w base spare held 36 v d ps) : In0 w v := numsn_of Tryd.underlying36 Tryd.underlying5 (by kernel_rfl) hv h
theorem open_in1 {H : Type} {enc : TypeId × Value → H} {w : World} {base b0 : Nat} {spare : Nat → Bool} {held : Bool} {v : Value} {d : DataW H} {ps : List MemPlace}
    (hv : Value.okWide Tryd.prog w .any b0 37 v) (h : DataW.Trod enc Tryd.prog w base spare held 37 v d ps) : In1 w v := numsn_of Tryd.underlying37 Tryd.underlying38 (by kernel_rfl) hv h
theorem NumsN.below {k : IntKind} {w w' : World} {v : Value} {xs : List Int} (h : NumsN k w v xs) (hb : Below w.heap.size w w') : NumsN k w' v xs := by
  obtain ⟨A, cap, h1, h2, h3, h4, h5⟩ := h
  refine ⟨A, cap, h1, h2, h3, h4, fun h0 => ?_⟩
  obtain ⟨g, o, e, hg, hc⟩ := h5 h0
  exact ⟨g, o, e, Nat.lt_of_lt_of_le hg hb.size, fun j x hj => (hb.cell (p := ⟨g, o + j, none⟩) hg).trans (hc j x hj)⟩
/-- The reasons that some bytes are. -/
def modL (zs : List Int) : List Nat := zs.map fun z => (z % 13).toNat
theorem mod_lt (zs : List Int) : ∀ k ∈ modL zs, k < 13 := fun k hk => by
  obtain ⟨z, _, rfl⟩ := List.mem_map.1 hk
  omega
theorem mod_take (zs : List Int) (j : Nat) (z : Int) (h : zs[j]? = some z) : modL (zs.take (j + 1)) = modL (zs.take j) ++ [(z % 13).toNat] := by
  rw [List.take_add_one, h]
  simp [modL]
theorem cnt_take (zs : List Int) (j : Nat) (z : Int) (h : zs[j]? = some z) : cnt (modL (zs.take (j + 1))) = bump (cnt (modL (zs.take j))) (z % 13).toNat := by
  rw [mod_take zs j z h, cnt_snoc _ _ (by omega)]
theorem mod_perm {zs xs : List Int} (h : zs.Perm xs) : cnt (modL zs) = cnt (modL xs) := cnt_perm (h.map _)
theorem fit_take (zs : List Int) (j : Nat) (h : zs.length ≤ 300) : Fit (cnt (modL (zs.take j))) := cnt_fit _ (mod_lt _) (by simp [modL]; omega)
theorem fit_bump_of {N : List Nat} {k : Nat} (h : Fit N) (hk : k < 13) (hs : N.sum < 1000000000000) : Fit (bump N k) := h.bump hk hs
theorem u16_wrap {s : Int} (h1 : 0 ≤ s) (h2 : s ≤ 65535) : IntKind.i64.wrap s = s := by rw [IntKind.wrap_i64]; omega
theorem ownb_addr {w : World} {B n c : Nat} {A : Option Addr} {zs : List Int} (h : OwnB w B (.slice A n c) zs) (hn : zs.length = n) (h0 : 0 < n) : ∃ g, A = some ⟨g, 0, none⟩ := by
  obtain ⟨g, c', e, _⟩ := ownb_form h hn h0
  injection e with e _ _
  exact ⟨g, e⟩
theorem ownb_cells {w : World} {B n c g : Nat} {zs : List Int} (h : OwnB w B (.slice (some ⟨g, 0, none⟩) n c) zs) (hn : zs.length = n) (h0 : 0 < n) : (∃ cur, w.heap[g]? = some (.cells cur 5 (0, 0))) ∧ ∀ j z, zs[j]? = some z → w.cell? ⟨g, j, none⟩ = some (.int .u8 z) := by
  obtain ⟨g', c', e, _, h1, h2⟩ := ownb_form h hn h0
  injection e with e _ _
  injection e with e
  injection e with e _ _
  subst e
  exact ⟨h1, h2⟩
theorem below_drewN {B : Nat} {a w : World} (h : Below B a w) (n : Nat) : Below B a (w.drewN n) := ⟨h.os, h.tape, h.output, h.size, h.block⟩
theorem at_getD (zs : List Int) (j : Nat) (h : j < zs.length) : zs[j]? = some (zs.getD j 0) := by
  rw [List.getD_eq_getElem?_getD, List.getElem?_eq_getElem h]; rfl

set_option maxRecDepth 100000 in
set_option maxHeartbeats 8000000 in
theorem walk_countOrder (v0 v1 : Value) (a2 : Int) (w : World) (w0 : In0 w v0) (w1 : In1 w v1) (w2 : (Lit.int .u8 a2).wf = true) (ht : Pow w) :
    Calls Tryd.prog 5 #[v0, v1, .int .u8 a2] w fun e w' => e = .returned (.bool true) ∧ Below w.heap.size w w' := by
  obtain ⟨xs, hxs⟩ := w0
  obtain ⟨ys, hys⟩ := w1
  obtain ⟨b1, b2⟩ := bounds_u8 w2
  have HT := Lib.hid ht
  have HN0 := Lib.hid hxs
  have HN1 := Lib.hid hys
  obtain ⟨A0, c0, rfl, hlc0, hwf0, _, hat0⟩ := hxs
  obtain ⟨A1, c1, rfl, hlc1, hwf1, _, hat1⟩ := hys
  have HX := Lib.hid (And.intro hat0 hwf0)
  have HY := Lib.hid (And.intro hat1 hwf1)
  obtain ⟨L0, hL0⟩ : ∃ L, L = xs.length := ⟨_, rfl⟩
  obtain ⟨L1, hL1⟩ : ∃ L, L = ys.length := ⟨_, rfl⟩
  have HL := Lib.hid (And.intro hL0 hL1)
  rw [← hL0] at hlc0 HN0 ⊢
  rw [← hL1] at hlc1 HN1 ⊢
  obtain ⟨k2, hk2⟩ : ∃ k : Nat, a2 % 13 = k := ⟨(a2 % 13).toNat, by omega⟩
  have hk13 : k2 < 13 := by omega
  clear ht hat0 hwf0 hat1 hwf1 hL0 hL1 w2
  go_enter Tryd.func5, Tryd.ntmps5
  go_wp2_with fail
  refine (new_any _).mono ?_
  rintro e w1 ⟨rfl, hw1⟩
  have S1 : Hid (St w w1 w.heap.size zeros) := by rw [hw1]; exact St.new w
  clear hw1
  obtain ⟨B1, hB1⟩ : ∃ B, B = w.heap.size := ⟨_, rfl⟩
  rw [← hB1] at S1 ⊢
  have HB1 := Lib.hid hB1
  clear hB1
  go_wp2_with fail
  refine (new_any _).mono ?_
  rintro e w2 ⟨rfl, hw2⟩
  obtain ⟨B2, hB2⟩ : ∃ B, B = w1.heap.size := ⟨_, rfl⟩
  rw [← hB2]
  have S2 := Lib.hid (show Cn w2 B1 zeros ∧ Cn w2 B2 zeros ∧ Below w.heap.size w w2 ∧ w.heap.size ≤ B1 ∧ w.heap.size ≤ B2 ∧ B1 ≠ B2 from by
    rw [hw2]
    refine ⟨S1.out.cn.below (bel_alloc _ _), by rw [hB2]; exact heap_alloc_new _ _, S1.out.bel.alloc S1.out.bel.size _, S1.out.own, by rw [hB2]; exact S1.out.bel.size, fun e => ?_⟩
    have := S1.out.cn.lt
    omega)
  clear hw2 hB2 S1
  go_wp2_with fail
  refine (alive_any _ (HT.out.below S2.out.2.2.1 (Nat.le_refl _))).mono ?_
  rintro e w3 ⟨rfl, h3⟩
  have S3 := Lib.hid (show Cn w3 B1 zeros ∧ Cn w3 B2 zeros ∧ Below w.heap.size w w3 ∧ w.heap.size ≤ B1 ∧ w.heap.size ≤ B2 ∧ B1 ≠ B2 from ⟨S2.out.1.below h3, S2.out.2.1.below h3, bel_trans S2.out.2.2.1 h3, S2.out.2.2.2⟩)
  clear h3 S2
  by_cases h300 : (300 : Int) < (L0 : Int)
  · go_wp2_with fail
    refine (alive_any _ (HT.out.below S3.out.2.2.1 (Nat.le_refl _))).mono ?_
    rintro e w4 ⟨rfl, h4⟩
    go_wp2
    go_ret
    exact ⟨rfl, by have := bel_trans S3.out.2.2.1 h4; rw [← HB1.out] at this ⊢; exact this⟩
  by_cases h301 : (300 : Int) < (L1 : Int)
  · go_wp2_with fail
    refine (alive_any _ (HT.out.below S3.out.2.2.1 (Nat.le_refl _))).mono ?_
    rintro e w4 ⟨rfl, h4⟩
    go_wp2
    go_ret
    exact ⟨rfl, by have := bel_trans S3.out.2.2.1 h4; rw [← HB1.out] at this ⊢; exact this⟩
  have HO := Lib.hid (ownb_empty w3 w.heap.size S3.out.2.2.1.size)
  have HNa := Lib.hid ((show NumsN .u8 w (.slice A0 L0 c0) xs from by have := HN0.out; exact this).below ((S3.out.2.2.1).alloc S3.out.2.2.1.size (.cells #[] 5)))
  go_wp2_with (at_builtin; refine wpList_append_nums rfl (.tmp 38) (.tmp 39) rfl w.heap.size _ [] rfl HO.out xs _ rfl HNa.out (by have := HL.out.1; simp; omega) (S3.out.2.2.1.alloc S3.out.2.2.1.size _).size ?_; intro v w5 ho hg)
  have hb5 : Below w3.heap.size w3 w5 := (bel_alloc w3 (.cells #[] 5)).grown hg (by simp) (fun k hk => by
    have hk : (Value.slice (some ⟨w3.heap.size, 0, none⟩) 0 0).ownBlock = some k := hk
    simp [Value.ownBlock] at hk
    omega)
  have R0 := Lib.hid (show Rm w w5 B1 B2 zeros zeros v xs from ⟨S3.out.1.below hb5, S3.out.2.1.below hb5, by simpa using ho, bel_trans S3.out.2.2.1 hb5, S3.out.2.2.2.1, S3.out.2.2.2.2.1, S3.out.2.2.2.2.2⟩)
  obtain ⟨A, c, rfl, hAc⟩ := ownb_len R0.out.row
  have hL0 := HL.out.1
  rw [← hL0] at R0 hAc ⊢
  clear hb5 ho hg HO HNa S3 HN0 HN1 hL0
  go_loopw [43] (fun i wr => ∃ (j : Nat) (zs : List Int), j ≤ L1 ∧ i = .int .i64 j ∧ Hid (Rm w wr B1 B2 zeros zeros (.slice A L0 c) zs ∧ zs.Perm xs)) (fun i _ => L1 - (intOf i).toNat)
  case atStart => exact ⟨0, xs, by omega, rfl, ⟨R0.out, .refl _⟩⟩
  case round =>
    obtain ⟨j, zs, hj, rfl, R1⟩ := hrel
    have hzl : zs.length = L0 := by rw [R1.out.2.length_eq, HL.out.1]
    by_cases hjL : j < L1
    · have hj1 : (j : Int) < (L1 : Int) := by omega
      obtain ⟨g1, o1, rfl, hg1, hc1⟩ := HY.out.1 (by rw [← HL.out.2]; omega)
      obtain ⟨s, hs⟩ : ∃ s, ys[j]? = some s := ⟨_, List.getElem?_eq_getElem (by rw [← HL.out.2]; exact hjL)⟩
      have hcell := (R1.out.1.bel.cell (p := ⟨g1, o1 + j, none⟩) hg1).trans (hc1 j s hs)
      obtain ⟨s1, s2⟩ := bounds_u16 (HY.out.2 s (List.mem_of_getElem? hs))
      have hws := u16_wrap s1 s2
      clear hs hc1 HY
      by_cases hn : 0 < L0
      · have hn1 : (0 : Int) < (L0 : Int) := by omega
        have hn2 : ¬ (L0 : Int) = 0 := by omega
        have hn3 : ((L0 : Int) == 0) = false := by simp; omega
        obtain ⟨x, hx⟩ : ∃ x, x = j % L0 := ⟨_, rfl⟩
        obtain ⟨y, hy⟩ : ∃ y, y = s.toNat % L0 := ⟨_, rfl⟩
        have hxk : x < L0 := by rw [hx]; exact Nat.mod_lt _ hn
        have hyk : y < L0 := by rw [hy]; exact Nat.mod_lt _ hn
        have x1 : (j : Int) % (L0 : Int) = (x : Int) := by rw [hx]; exact (Int.natCast_emod j L0).symm
        have x2 : (j : Int).tmod (L0 : Int) = (x : Int) := by rw [Int.tmod_eq_emod_of_nonneg (by omega)]; exact x1
        have y1 : s % (L0 : Int) = (y : Int) := by rw [hy, Int.natCast_emod, Int.toNat_of_nonneg s1]
        have y2 : s.tmod (L0 : Int) = (y : Int) := by rw [Int.tmod_eq_emod_of_nonneg s1]; exact y1
        clear hx hy
        go_wp2_with fail
        go_quiet (fail)
        obtain ⟨W, hW⟩ : ∃ W, W = wr.drewN nq := ⟨_, rfl⟩
        rw [← hW]
        have R2 := Lib.hid (And.intro (R1.out.1.below (by rw [hW]; exact below_drewN (Below.refl _ _) _ : Below wr.heap.size wr W)) R1.out.2)
        clear hW x1 x2 y1 y2 R1 hcell
        obtain ⟨gb, rfl⟩ := ownb_addr R2.out.1.row hzl hn
        obtain ⟨⟨cur, hgb⟩, hcb⟩ := ownb_cells R2.out.1.row hzl hn
        have u1 := hcb x _ (at_getD zs x (by omega))
        have u2 := hcb y _ (at_getD zs y (by omega))
        have f1 : W.frozen? ⟨gb, x, none⟩ = false := frozen_row hgb x
        have f2 : W.frozen? ⟨gb, y, none⟩ = false := frozen_row hgb y
        obtain ⟨u, hu⟩ : ∃ u, u = zs.getD x 0 := ⟨_, rfl⟩
        obtain ⟨t, hv⟩ : ∃ v, v = zs.getD y 0 := ⟨_, rfl⟩
        rw [← hu] at u1
        rw [← hv] at u2
        have R3 := Lib.hid (R2.out.1.set x t)
        obtain ⟨_, hcb'⟩ := ownb_cells R3.out.row (by rw [List.length_set]; exact hzl) hn
        obtain ⟨z, u3⟩ : ∃ z, (W.setCell ⟨gb, x, none⟩ (.int .u8 t)).cell? ⟨gb, y, none⟩ = some (.int .u8 z) := ⟨_, hcb' y _ (at_getD _ y (by rw [List.length_set]; omega))⟩
        have HU := Lib.hid (And.intro hu hv)
        clear hu hv hcb hcb' hgb R3
        go_wp2_with fail
        go_region
        go_wp2
        have RS := R2.out.1.swapped (i := x) (j := y)
        rw [← HU.out.2, ← HU.out.1] at RS
        exact ⟨⟨j + 1, swap zs x y, by omega, by go_num, Lib.hid ⟨RS.below (Below.refl _ _).drew, (swap_perm zs x y (by omega) (by omega)).trans R2.out.2⟩⟩, by simp [intOf]; omega⟩
      · have hn1 : ¬ (0 : Int) < (L0 : Int) := by omega
        go_wp2_with fail
        go_roundw
        case rel => exact ⟨j + 1, zs, by omega, by go_num, R1⟩
        case measure => simp [intOf]; omega
    · obtain rfl : j = L1 := by omega
      clear hjL
      have HZ := Lib.hid (And.intro hzl (fun z (hz : z ∈ zs) => HX.out.2 z (R1.out.2.mem_iff.1 hz)))
      have HP := Lib.hid (mod_perm R1.out.2)
      go_wp2_with fail
      go_loopw [77] (fun i wr => ∃ q : Nat, q ≤ L0 ∧ i = .int .i64 q ∧ Hid (Rm w wr B1 B2 (cnt (modL (xs.take q))) (cnt (modL (zs.take q))) (.slice A L0 c) zs)) (fun i _ => L0 - (intOf i).toNat)
      case atStart => exact ⟨0, by omega, rfl, R1.out.1⟩
      case round =>
        obtain ⟨q, hq, rfl, R2⟩ := hrel
        by_cases hqL : q < L0
        · have hq1 : (q : Int) < (L0 : Int) := by omega
          obtain ⟨g0, o0, rfl, hg0, hc0⟩ := HX.out.1 (by rw [← HL.out.1]; omega)
          obtain ⟨x, hx⟩ : ∃ x, xs[q]? = some x := ⟨_, List.getElem?_eq_getElem (by rw [← HL.out.1]; exact hqL)⟩
          obtain ⟨z, hz⟩ : ∃ z, zs[q]? = some z := ⟨_, List.getElem?_eq_getElem (by rw [hzl]; exact hqL)⟩
          have cx := (R2.out.bel.cell (p := ⟨g0, o0 + q, none⟩) hg0).trans (hc0 q x hx)
          obtain ⟨x1, x2⟩ := bounds_u8 (HX.out.2 x (List.mem_of_getElem? hx))
          obtain ⟨z1, z2⟩ := bounds_u8 (HZ.out.2 z (List.mem_of_getElem? hz))
          obtain ⟨gb, rfl⟩ := ownb_addr R2.out.row hzl (by omega)
          obtain ⟨kx, hkx⟩ : ∃ k : Nat, k = (x % 13).toNat := ⟨_, rfl⟩
          obtain ⟨kz, hkz⟩ : ∃ k : Nat, k = (z % 13).toNat := ⟨_, rfl⟩
          have xm : x % 13 = (kx : Int) := by omega
          have xt : x.tmod 13 = (kx : Int) := by rw [Int.tmod_eq_emod_of_nonneg x1]; exact xm
          have zm : z % 13 = (kz : Int) := by omega
          have zt : z.tmod 13 = (kz : Int) := by rw [Int.tmod_eq_emod_of_nonneg z1]; exact zm
          have hkx13 : kx < 13 := by omega
          have hkz13 : kz < 13 := by omega
          have wx : IntKind.i64.wrap (kx : Int) = (kx : Int) := by rw [IntKind.wrap_i64]; omega
          have wz : IntKind.i64.wrap (kz : Int) = (kz : Int) := by rw [IntKind.wrap_i64]; omega
          have l1 : xs.length ≤ 300 := by rw [← HL.out.1]; omega
          have l2 : zs.length ≤ 300 := by omega
          have HE := Lib.hid (And.intro (cnt_take xs q x hx) (cnt_take zs q z hz))
          rw [← hkx, ← hkz] at HE
          have K1 := Lib.hid (add_in B1 kx _ wr hkx13 (fit_take xs q l1) R2.out.ca)
          have KZ := Lib.hid (fun W (R : Rm w W B1 B2 (bump (cnt (modL (xs.take q))) kx) (cnt (modL (zs.take q))) (.slice (some ⟨gb, 0, none⟩) L0 c) zs) => And.intro ((ownb_cells R.row hzl (by omega)).2 q z hz) (add_in B2 kz _ W hkz13 (fit_take zs q l2) R.cb))
          clear hx hz hc0 hkx hkz
          go_wp2_with fail
          refine K1.out.mono ?_
          rintro e w6 ⟨rfl, k1, k2⟩
          have R6 := Lib.hid (R2.out.but1 k1 k2)
          clear k1 k2 K1 cx R2
          obtain ⟨cz, K2⟩ := KZ.out w6 R6.out
          have K2 := Lib.hid K2
          clear KZ
          go_wp2_with fail
          refine K2.out.mono ?_
          rintro e w7 ⟨rfl, k1, k2⟩
          have R7 := Lib.hid (R6.out.but2 k1 k2)
          rw [← HE.out.1, ← HE.out.2] at R7
          clear k1 k2 K2 cz R6
          go_wp2
          go_roundw
          case rel => exact ⟨q + 1, by omega, by go_num, R7⟩
          case measure => simp [intOf]; omega
        · obtain rfl : q = L0 := by omega
          clear hqL
          have R3 := Lib.hid (show Rm w wr B1 B2 (cnt (modL xs)) (cnt (modL xs)) (.slice A q c) zs from by
            have := R2.out
            rw [List.take_of_length_le (by rw [← HL.out.1]; omega), List.take_of_length_le (by omega), HP.out] at this
            exact this)
          have hfit : Fit (cnt (modL xs)) := by
            have := fit_take xs xs.length (by rw [← HL.out.1]; omega)
            rw [List.take_length] at this
            exact this
          have hsum : (cnt (modL xs)).sum = q := by rw [cnt_sum _ (mod_lt xs)]; simp [modL]; exact HL.out.1.symm
          obtain ⟨N, hN⟩ : ∃ N, N = cnt (modL xs) := ⟨_, rfl⟩
          rw [← hN] at R3 hfit hsum
          have hra := ref_and N hfit.len
          have hsl : N.sum ≤ 1000000 := by omega
          have hwr : IntKind.i64.wrap ((refN N : Int) + (N.getD 0 0 : Nat)) = (q : Int) := by
            rw [IntKind.wrap_i64]; omega
          have HF := Lib.hid (And.intro hfit (fit_bump_of hfit hk13 (by omega)))
          have hne1 := bump_ne N k2 (by rw [hfit.len]; exact hk13)
          have hne2 : (txtS N).toList ≠ (txtS (bump N k2)).toList := fun e => text_bump_ne N k2 (by rw [hfit.len]; exact hk13) (by
            rw [ByteArray.toList_eq, ByteArray.toList_eq] at e
            simpa [txtS] using e)
          clear hN R2 R1 HX HZ HP hfit hsum hra hsl
          obtain ⟨r, hr⟩ : ∃ r, r = refN N := ⟨_, rfl⟩
          obtain ⟨n0, hn0⟩ : ∃ n, n = N.getD 0 0 := ⟨_, rfl⟩
          obtain ⟨t1, ht1⟩ : ∃ t, t = txtS N := ⟨_, rfl⟩
          obtain ⟨t2, ht2⟩ : ∃ t, t = txtS (bump N k2) := ⟨_, rfl⟩
          rw [← hr, ← hn0] at hwr
          rw [← ht1, ← ht2] at hne2
          have hne2 : (t1.toList == t2.toList) = false := by rw [beq_eq_false_iff_ne]; exact hne2
          have HQ := Lib.hid (And.intro hr (And.intro hn0 (And.intro ht1 ht2)))
          clear hr hn0 ht1 ht2
          have K := Lib.hid (same_any _ _ N N wr HF.out.1.len HF.out.1.len R3.out.cs1 R3.out.cs2)
          rw [show (N == N) = true by simp] at K
          go_wp2_with fail
          refine K.out.mono ?_
          rintro e w6 ⟨rfl, h6⟩
          have R6 := Lib.hid (R3.out.below h6)
          clear h6 K R3
          have K := Lib.hid (text_any _ N w6 HF.out.1 R6.out.cs1 (R6.out.pow HT.out))
          rw [← HQ.out.2.2.1] at K
          go_wp2_with fail
          refine K.out.mono ?_
          rintro e w7 ⟨rfl, h7⟩
          have R7 := Lib.hid (R6.out.below h7)
          clear h7 K R6
          have K := Lib.hid (text_any _ N w7 HF.out.1 R7.out.cs2 (R7.out.pow HT.out))
          rw [← HQ.out.2.2.1] at K
          go_wp2_with fail
          refine K.out.mono ?_
          rintro e w8 ⟨rfl, h8⟩
          have R8 := Lib.hid (R7.out.below h8)
          clear h8 K R7
          have K := Lib.hid (refused_any _ N w8 HF.out.1 R8.out.cs1)
          rw [← HQ.out.1] at K
          go_wp2_with fail
          refine K.out.mono ?_
          rintro e w9 ⟨rfl, h9⟩
          have R9 := Lib.hid (R8.out.below h9)
          clear h9 K R8
          have K : Hid (Calls Tryd.prog 10 #[.pointer (some ⟨B1, 0, none⟩), .int .i64 0] w9 fun e w' => e = .returned (.int .i64 (n0 : Nat)) ∧ Below w9.heap.size w9 w') := by
            have := of_in _ N 0 w9 (by decide) HF.out.1.len R9.out.cs1
            rw [← HQ.out.2.1] at this
            exact this
          go_wp2_with fail
          refine K.out.mono ?_
          rintro e w10 ⟨rfl, h10⟩
          have R10 := Lib.hid (R9.out.below h10)
          clear h10 K R9
          have K := Lib.hid (add_in B2 k2 N w10 hk13 HF.out.1 R10.out.cb)
          go_wp2_with fail
          refine K.out.mono ?_
          rintro e w11 ⟨rfl, k1, k3⟩
          have R11 := Lib.hid (R10.out.but2 k1 k3)
          clear k1 k3 K R10
          have K := Lib.hid (same_any _ _ N (bump N k2) w11 HF.out.1.len HF.out.2.len R11.out.cs1 R11.out.cs2)
          rw [hne1] at K
          go_wp2_with fail
          refine K.out.mono ?_
          rintro e w12 ⟨rfl, h12⟩
          have R12 := Lib.hid (R11.out.below h12)
          clear h12 K R11
          have K := Lib.hid (text_any _ N w12 HF.out.1 R12.out.cs1 (R12.out.pow HT.out))
          rw [← HQ.out.2.2.1] at K
          go_wp2_with fail
          refine K.out.mono ?_
          rintro e w13 ⟨rfl, h13⟩
          have R13 := Lib.hid (R12.out.below h13)
          clear h13 K R12
          have K := Lib.hid (text_any _ (bump N k2) w13 HF.out.2 R13.out.cs2 (R13.out.pow HT.out))
          rw [← HQ.out.2.2.2] at K
          go_wp2_with fail
          refine K.out.mono ?_
          rintro e w14 ⟨rfl, h14⟩
          have R14 := Lib.hid (R13.out.below h14)
          clear h14 K R13
          go_wp2
          go_ret
          exact ⟨rfl, R14.out.bel⟩
end Go.Proofs.YtfhpckglckcdjaaDoor
