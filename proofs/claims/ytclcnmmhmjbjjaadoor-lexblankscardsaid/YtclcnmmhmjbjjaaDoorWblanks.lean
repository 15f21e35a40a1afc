/- LexBlanks' walk. -/
import Derived.Test.YtclcnmmhmjbjjaaDoorWblanks0
namespace Go.Proofs.YtclcnmmhmjbjjaaDoor
open Go.RowKit Go.Proofs.Lx

theorem app_data (a b : ByteArray) : (a ++ b).data.toList = a.data.toList ++ b.data.toList := by simp
theorem take_snoc_list {α : Type} (l : List α) (i : Nat) (x : α) (h : l[i]? = some x) : l.take (i + 1) = l.take i ++ [x] := by rw [List.take_add_one, h]; rfl
theorem decs_at_ (xs : List Nat) (i x : Nat) (h : xs[i]? = some x) : (decs xs)[i]? = some (Lib.decDigits x) := by unfold decs; rw [List.getElem?_map, h]; rfl
theorem ws_at (ls : List (List Nat)) (k : Nat) (xs : List Nat) (h : ls[k]? = some xs) : (ls.map decs)[k]? = some (decs xs) := by rw [List.getElem?_map, h]; rfl
theorem decs_full_ (xs : List Nat) : (decs xs).take xs.length = decs xs := List.take_of_length_le (by unfold decs; simp)

theorem _root_.Go.Proofs.Lx.Strs.max {w : World} {base : Nat} {v : Value} {ws : List Bs} (h : Strs w base v ws) : ws.length ≤ maxLen := by
  have h' : w.ownsRow base 9 1 v ws.length (ws.map Str) := h
  rcases h'.2 with ⟨_, h0⟩ | ⟨g, cap, cur, _, _, _, h1, h2, _⟩
  · rw [h0]; exact Nat.zero_le _
  · omega
theorem gath_le : ∀ (W : List (List Bs)) (i : Nat) (acc : List Ln), (gath i acc W).length ≤ acc.length + W.length
  | [], i, acc => by simp [gath]
  | b :: W, i, acc => by
    have h1 := gath_le W (i + 1) (addL acc i b)
    have h2 := addL_len acc i b
    rw [gath]; simp; omega
theorem number_str (x : Nat) (p : ByteArray) (hx : x ≤ 65535) (hp : p.data.toList = Lib.decDigits x) (w : World) : Calls Tryd.prog 14 #[.string p] w fun e w' => e = .returned (.tuple #[.int .i64 (x : Int), .int .i64 0]) ∧ Below w.heap.size w w' := by
  have := number_any p w
  rw [hp, number_dec x (by omega)] at this
  exact this
theorem decs_len (xs : List Nat) : (decs xs).length = xs.length := by unfold decs; simp
theorem frozen_new (w : World) (cs : Array Value) (t : TypeId) (i : Nat) : (w.alloc (.cells cs t)).frozen? ⟨w.heap.size, i, none⟩ = false := by
  have h : (w.alloc (.cells cs t)).heap[w.heap.size]? = some (.cells cs t (0, 0)) := heap_alloc_new w _
  unfold World.frozen?
  simp only [h]
  simp
theorem st_start (w : World) (v1 : Value) : St w v1 ((w.alloc (.cells #[v1] 44)).alloc (.cells #[.int .i64 0] 3)) 0 := by
  refine ⟨((Below.refl _ _).alloc (Nat.le_refl _) _).alloc (by simp) _, by simp, by simp, ?_⟩
  have := frozen_new (w.alloc (.cells #[v1] 44)) #[.int .i64 0] 3 0
  rw [show (w.alloc (.cells #[v1] 44)).heap.size = w.heap.size + 1 by simp] at this
  exact this

set_option maxRecDepth 100000 in
set_option maxHeartbeats 16000000 in
theorem blanks_main (v0 v1 : Value) (ls : List (List Nat)) (bs : List Nat) (w : World) (hm : Mx w) (ht : Pow w) (h0 : Rows16 w v0 ls) (h1 : Nums .u8 255 w v1 bs) (hz0 : (ls.length : Int) ≤ 20) (hz1 : (bs.length : Int) ≤ 100) :
    Calls Tryd.prog 6 #[v0, v1] w fun e w' => e = .returned (.bool true) ∧ Below w.heap.size w w' := by
  have HM := Lib.hid hm
  have HT := Lib.hid ht
  have HV := Lib.hid h1
  have HR := Lib.hid h0
  obtain ⟨A0, c0, rfl, hc0, _⟩ := h0
  obtain ⟨A1, c1, rfl, _, _, _⟩ := h1
  have d0 : decide ((20 : Int) < (ls.length : Int)) = false := decide_eq_false (by omega)
  have d1 : decide ((100 : Int) < (bs.length : Int)) = false := decide_eq_false (by omega)
  have hS0 := st_start w (.slice A1 bs.length c1)
  have HS0 := Lib.hid hS0
  clear hm ht hS0
  go_enter Tryd.func6, Tryd.ntmps6
  go_wp2_with fail
  go_loopw [5, 34] (fun t i wr => ∃ (k a : Nat) (T : ByteArray), k ≤ ls.length ∧ i = .int .i64 k ∧ t = .string T ∧ T.size ≤ 500 * k ∧ a ≤ 21 * k ∧ Hid (Txt (ls.map decs) k T.data.toList) ∧ Hid (St w (.slice A1 bs.length c1) wr a)) (fun _ i _ => ls.length - (intOf i).toNat)
  case atStart => exact ⟨0, 0, ⟨#[]⟩, Nat.zero_le _, rfl, rfl, by simp [ByteArray.size], by omega, .inl ⟨rfl, rfl⟩, HS0⟩
  case round =>
    obtain ⟨k, a, T, hk, rfl, rfl, hTz, haz, HX, HST⟩ := hrel
    by_cases hkN : k < ls.length
    · obtain ⟨xs, hxs⟩ : ∃ xs, ls[k]? = some xs := ⟨_, List.getElem?_eq_getElem hkN⟩
      obtain ⟨A0', c0', e0, _, hcell⟩ := HR.out
      injection e0 with e1 _ e2
      subst e1 e2
      obtain ⟨g0, o0, rfl, hg0, hcell⟩ := hcell (by omega)
      obtain ⟨u, hu0, hnu⟩ := hcell k xs hxs
      have hu := (HST.out.below.cell (p := ⟨g0, o0 + k, none⟩) hg0).trans hu0
      have HNU := Lib.hid hnu
      obtain ⟨B, cb, rfl, hcb, hxx, _⟩ := hnu
      have HXX := Lib.hid hxx
      have HXS := Lib.hid hxs
      clear hcell hxs hxx hu0
      by_cases hz : (20 : Int) < (xs.length : Int)
      · go_wp2_with fail
        refine (alive_any wr (HM.out.below HST.out.below (Nat.le_refl _))).mono ?_
        rintro e w5 ⟨rfl, hb5⟩
        go_wp2
        go_ret
        exact ⟨rfl, HST.out.below.trans (hb5.mono HST.out.below.size)⟩
      · have hcase : (∃ T1 : ByteArray, T1 = T ++ ⟨#[10]⟩ ∧ (0 : Int) < (k : Int) ∧ T1.size ≤ 500 * k + 1 ∧ Hid (Mid (ls.map decs) k T1.data.toList [])) ∨ (∃ T1 : ByteArray, T1 = T ∧ ¬ (0 : Int) < (k : Int) ∧ T1.size ≤ 500 * k + 1 ∧ Hid (Mid (ls.map decs) k T1.data.toList [])) := by
          by_cases hk0 : 0 < k
          · refine .inl ⟨_, rfl, by omega, by rw [ByteArray.size_append, show (⟨#[10]⟩ : ByteArray).size = 1 from rfl]; omega, ?_⟩
            rw [app_data]; exact HX.out.mid hk0
          · obtain rfl : k = 0 := by omega
            exact .inr ⟨_, rfl, by omega, by omega, HX.out.mid0⟩
        clear HX
        rcases hcase with ⟨T1, hT1, hk0, hT1z, HM1⟩ | ⟨T1, hT1, hk0, hT1z, HM1⟩
        all_goals
          have HT1 := Lib.hid hT1
          clear hT1
          go_wp2_with fail
          rw [← HT1.out]
          clear HT1
          go_loopw [5, 49] (fun t j wq => ∃ (i a2 : Nat) (T2 : ByteArray), i ≤ xs.length ∧ j = .int .i64 i ∧ t = .string T2 ∧ T2.size ≤ 500 * k + 1 + 23 * i ∧ a2 ≤ a + i ∧ Hid (Mid (ls.map decs) k T2.data.toList ((decs xs).take i)) ∧ Hid (St w (.slice A1 bs.length c1) wq a2)) (fun _ j _ => xs.length - (intOf j).toNat)
          case atStart => exact ⟨0, a, T1, Nat.zero_le _, rfl, rfl, by omega, by omega, HM1, HST⟩
          case round =>
            obtain ⟨i, a2, T2, hi, rfl, rfl, hT2z, ha2, HMD, HST2⟩ := hrel
            by_cases hix : i < xs.length
            · obtain ⟨x, hx⟩ : ∃ x, xs[i]? = some x := ⟨_, List.getElem?_eq_getElem hix⟩
              have hx5 := HXX.out x (List.mem_of_getElem? hx)
              obtain ⟨B', cb', eb, _, _, hcx⟩ := HNU.out.below HST2.out.below (Nat.le_refl _)
              injection eb with eb1 _ eb2
              subst eb1 eb2
              obtain ⟨gx, ox, rfl, hgx, hcx⟩ := hcx (by omega)
              have hcx' := hcx i x hx
              have HMS : Hid (∀ b : Bs, IsBl b → Mid (ls.map decs) k (T2.data.toList ++ (b ++ Lib.decDigits x)) ((decs xs).take (i + 1))) := fun b hb => by
                rw [take_snoc_list _ i _ (decs_at_ xs i x hx)]; exact HMD.out.step hb x
              clear hcx hx HMD
              go_wp2_with fail
              refine (blank_st w _ _ bs a2 HST2.out HV.out (by omega) (by omega)).mono ?_
              rintro e w5 ⟨sb, rfl, HB, hsb, hSt5⟩
              have HS5 := Lib.hid hSt5
              clear hSt5
              go_wp2_with fail
              refine (text_nat x w5 hx5 (HT.out.below HS5.out.below (Nat.le_refl _))).mono ?_
              rintro e w6 ⟨tx, rfl, HTX, htx, hb6⟩
              go_wp2
              have HMN := HMS.out _ HB.out
              have hss : (T2 ++ (sb ++ tx)).size = T2.size + (sb.size + tx.size) := by rw [ByteArray.size_append, ByteArray.size_append]
              go_roundw
              case rel => exact ⟨i + 1, a2 + 1, T2 ++ (sb ++ tx), by omega, by go_num, rfl, by omega, by omega, by rw [app_data, app_data, HTX.out]; exact HMN, HS5.out.keep hb6⟩
              case measure => simp [intOf]; omega
            · obtain rfl : i = xs.length := by omega
              have HMF := HMD.out
              rw [decs_full_] at HMF
              have hws := ws_at ls k xs HXS.out
              by_cases hodd : k % 2 = 1
              · first
                | exfalso; omega
                | have m1 : (k : Int) % 2 = 1 := by omega
                  have m2 : (k : Int).tmod 2 = 1 := by rw [Int.tmod_eq_emod_of_nonneg (by omega)]; exact m1
                  have HDR : Hid (∀ b : Bs, IsBl b → Txt (ls.map decs) (k + 1) (T2.data.toList ++ (b ++ [35, 32, 110, 111, 116, 1, 32, 116, 104, 105, 115]))) := fun b hb => HMF.done_remark hws hb _ (by decide)
                  clear HMD HMF hws
                  go_wp2_with fail
                  refine (blank_st w _ _ bs a2 HST2.out HV.out (by omega) (by omega)).mono ?_
                  rintro e w5 ⟨sb, rfl, HB, hsb, hSt5⟩
                  have HS5 := Lib.hid hSt5
                  clear hSt5
                  go_wp2
                  have HMN := HDR.out _ HB.out
                  have hss : (T2 ++ (sb ++ ⟨#[35, 32, 110, 111, 116, 1, 32, 116, 104, 105, 115]⟩)).size = T2.size + (sb.size + 11) := by rw [ByteArray.size_append, ByteArray.size_append]; rfl
                  go_roundw
                  case rel => exact ⟨k + 1, a2 + 1, _, by omega, by go_num, rfl, by omega, by omega, by rw [app_data, app_data]; exact HMN, HS5⟩
                  case measure => simp [intOf]; omega
              · have m1 : (k : Int) % 2 = 0 := by omega
                have m2 : (k : Int).tmod 2 = 0 := by rw [Int.tmod_eq_emod_of_nonneg (by omega)]; exact m1
                have HDN := Lib.hid (HMF.done hws)
                clear HMD HMF hws hodd
                go_wp2_with fail
                go_roundw
                case rel => exact ⟨k + 1, a2, T2, by omega, by go_num, rfl, by omega, by omega, HDN, HST2⟩
                case measure => simp [intOf]; omega
    · obtain rfl : k = ls.length := by omega
      have hout : outOf T.data.toList = (gath 0 [] (ls.map decs), 0, 0) := by
        have hx := HX.out
        rw [show ls.length = (ls.map decs).length by simp] at hx
        exact hx.out (by rw [len_eq]; omega)
      have KL : Hid (∀ w', Mx w' → Calls Tryd.prog 11 #[.string T] w' fun e w'' => ∃ v, IsLines 41 w'' w'.heap.size v (gath 0 [] (ls.map decs)) ∧ e = .returned (.tuple #[v, .int .i64 0, .int .i64 0]) ∧ Below w'.heap.size w' w'') := fun w' h => by
        have := lines_any T w' (by omega) h
        unfold LinesPost at this
        rw [hout] at this
        exact this
      have hTz2 : ¬ (60000 : Int) < (T.size : Int) := by omega
      have hbw := HST.out.below
      clear hout HX
      go_wp2_with fail
      refine (KL.out wr (HM.out.below hbw (Nat.le_refl _))).mono ?_
      rintro e w7 ⟨v7, hv7, rfl, hb7⟩
      have H7 := Lib.hid hv7
      obtain ⟨A7, c7, rfl, hc7⟩ := hv7.len
      have hb07 : Below w.heap.size w w7 := hbw.trans (hb7.mono hbw.size)
      clear hv7 KL HST HS0
      obtain ⟨G, hG⟩ : ∃ G, G = gath 0 [] (ls.map decs) := ⟨_, rfl⟩
      rw [← hG] at H7 hc7 ⊢
      have HG := Lib.hid hG
      clear hG
      have hGz : G.length ≤ 100 := by
        have := gath_le (ls.map decs) 0 []
        rw [HG.out]; simp at this; omega
      go_wp2_with fail
      go_loopw [15, 89] (fun q i wr2 => ∃ k : Nat, k ≤ ls.length ∧ i = .int .i64 k ∧ q = .int .i64 ((gath 0 [] ((ls.map decs).take k)).length : Int) ∧ Below w7.heap.size w7 wr2) (fun _ i _ => ls.length - (intOf i).toNat)
      case atStart => exact ⟨0, Nat.zero_le _, rfl, rfl, Below.refl _ _⟩
      case round =>
        obtain ⟨k, hk, rfl, rfl, hbr2⟩ := hrel
        have hb02 : Below w.heap.size w wr := hb07.trans (hbr2.mono hb07.size)
        have hql := gath_len (ls.map decs) k
        rw [← HG.out] at hql
        by_cases hkN : k < ls.length
        · obtain ⟨xs, hxs⟩ : ∃ xs, ls[k]? = some xs := ⟨_, List.getElem?_eq_getElem hkN⟩
          obtain ⟨A0', c0', e0, _, hcell⟩ := HR.out
          injection e0 with e1 _ e2
          subst e1 e2
          obtain ⟨g0, o0, rfl, hg0, hcell⟩ := hcell (by omega)
          obtain ⟨u, hu0, hnu⟩ := hcell k xs hxs
          have hu := (hb02.cell (p := ⟨g0, o0 + k, none⟩) hg0).trans hu0
          have HNU := Lib.hid hnu
          obtain ⟨B, cb, rfl, hcb, hxx, _⟩ := hnu
          have HXX := Lib.hid hxx
          have hws := ws_at ls k xs hxs
          have hgt := gath_take (ls.map decs) k (decs xs) hws
          by_cases hxe : xs = []
          · subst hxe
            have HGT : Hid ((gath 0 [] ((ls.map decs).take (k + 1))).length = (gath 0 [] ((ls.map decs).take k)).length) := by
              rw [hgt]; rfl
            obtain ⟨qn, hqn⟩ : ∃ qn, qn = (gath 0 [] ((ls.map decs).take k)).length := ⟨_, rfl⟩
            rw [← hqn] at HGT hql ⊢
            clear hcell hxs hxx hu0 hws hgt hqn
            go_wp2_with fail
            go_roundw
            case rel => exact ⟨k + 1, by omega, by go_num, by rw [HGT.out], hbr2⟩
            case measure => simp [intOf]; omega
          · have hxp : 0 < xs.length := List.length_pos_iff.2 hxe
            have hde : decs xs ≠ [] := fun e => hxe (by unfold decs at e; simpa using e)
            have hat := gath_at (ls.map decs) k (decs xs) hws hde
            rw [← HG.out] at hat
            have hgt2 : (gath 0 [] ((ls.map decs).take (k + 1))).length = (gath 0 [] ((ls.map decs).take k)).length + 1 := by
              rw [hgt, addL, if_neg hde]; simp
            have HGT := Lib.hid hgt2
            clear hgt2
            obtain ⟨qn, hqn⟩ : ∃ qn, qn = (gath 0 [] ((ls.map decs).take k)).length := ⟨_, rfl⟩
            rw [← hqn] at HGT hql hat ⊢
            have hqG : qn < G.length := (List.getElem?_eq_some_iff.1 hat).1
            obtain ⟨g7, y7, e7, _, hg7, r7⟩ := (H7.out.below hbr2 (Nat.le_refl _)).at_ (by omega)
            injection e7 with e7 _ e8
            subst e7 e8
            obtain ⟨a1, u7, a2, a3⟩ := r7 qn (k + 1) (decs xs) hat
            rw [Nat.mul_comm] at a1 a2
            have HU7 := Lib.hid a3
            have hmx := a3.max
            rw [decs_len] at hmx
            unfold maxLen at hmx
            obtain ⟨B7, y9, rfl, hy9⟩ := a3.len
            rw [decs_len] at a2 hy9 HU7
            have bx : ((xs.length : Int) == 0) = false := beqF (by omega)
            have hql2 : (qn : Int) < (G.length : Int) := by omega
            have hkk : ((k + 1 : Nat) : Int) = (k : Int) + 1 := by omega
            rw [hkk] at a1
            have HXS := Lib.hid hxs
            have HAT := Lib.hid hat
            clear hcell hxs hxx hu0 hws hgt hqn hat r7 a3 hde hxe hkk
            go_wp2_with fail
            go_loopw [124] (fun j wr3 => ∃ i : Nat, i ≤ xs.length ∧ j = .int .i64 i ∧ Below w7.heap.size w7 wr3) (fun j _ => xs.length - (intOf j).toNat)
            case atStart => exact ⟨0, Nat.zero_le _, rfl, hbr2⟩
            case round =>
              obtain ⟨i, hi, rfl, hbr3⟩ := hrel
              have hb03 : Below w.heap.size w wr := hb07.trans (hbr3.mono hb07.size)
              by_cases hix : i < xs.length
              · obtain ⟨x, hx⟩ : ∃ x, xs[i]? = some x := ⟨_, List.getElem?_eq_getElem hix⟩
                have hx5 := HXX.out x (List.mem_of_getElem? hx)
                obtain ⟨B', cb', eb, _, _, hcx⟩ := HNU.out.below hb03 (Nat.le_refl _)
                injection eb with eb1 _ eb2
                subst eb1 eb2
                obtain ⟨gx, ox, rfl, hgx, hcx⟩ := hcx (by omega)
                have hcx' := hcx i x hx
                obtain ⟨g7', y7', e7, _, _, r7⟩ := (H7.out.below hbr3 (Nat.le_refl _)).at_ (by omega)
                injection e7 with e7 _ e9
                injection e7 with e7
                injection e7 with e7 _ _
                subst e7 e9
                obtain ⟨_, u8', b2, b3⟩ := r7 qn (k + 1) (decs xs) HAT.out
                rw [Nat.mul_comm] at b2
                obtain ⟨gw, yw, rfl, hyw, _, rw_⟩ := b3.at_ (by rw [decs_len]; omega)
                have f1 := rw_ i _ (decs_at_ xs i x hx)
                obtain ⟨p, hp, hp2⟩ := str_mk' (Lib.decDigits x)
                rw [hp] at f1
                rw [decs_len] at b2 hyw
                have HP := Lib.hid hp2
                clear hcx hx r7 b3 rw_ hp hp2 a1 a2
                go_wp2_with fail
                refine (number_str x p hx5 HP.out wr).mono ?_
                rintro e w10 ⟨rfl, hb10⟩
                go_wp2
                go_roundw
                case rel => exact ⟨i + 1, by omega, by go_num, hbr3.trans (hb10.mono hbr3.size)⟩
                case measure => simp [intOf]; omega
              · clear a1 a2
                go_wp2_with fail
                go_roundw
                case rel => exact ⟨k + 1, by omega, by go_num, by rw [HGT.out]; go_num, hbr3⟩
                case measure => simp [intOf]; omega
        · have HQ : Hid ((gath 0 [] ((ls.map decs).take k)).length = G.length) := by
            rw [List.take_of_length_le (by simp; omega), HG.out]; rfl
          obtain ⟨qn, hqn⟩ : ∃ qn, qn = (gath 0 [] ((ls.map decs).take k)).length := ⟨_, rfl⟩
          rw [← hqn] at HQ ⊢
          have hq2 : ((qn : Int) == (G.length : Int)) = true := beqT (by have := HQ.out; omega)
          clear hqn
          go_wp2_with fail
          refine (alive_any wr (HM.out.below hb02 (Nat.le_refl _))).mono ?_
          rintro e w9 ⟨rfl, hb9⟩
          go_wp2
          go_ret
          exact ⟨rfl, hb02.trans (hb9.mono hb02.size)⟩
theorem blanks_any (v0 v1 : Value) (ls : List (List Nat)) (bs : List Nat) (w : World) (hm : Mx w) (ht : Pow w) (h0 : Rows16 w v0 ls) (h1 : Nums .u8 255 w v1 bs) :
    Calls Tryd.prog 6 #[v0, v1] w fun e w' => e = .returned (.bool true) ∧ Below w.heap.size w w' := by
  by_cases hl : (20 : Int) < (ls.length : Int)
  · exact blanks_many v0 v1 ls bs w hm h0 h1 (.inl hl)
  · by_cases hb : (100 : Int) < (bs.length : Int)
    · exact blanks_many v0 v1 ls bs w hm h0 h1 (.inr ⟨by omega, hb⟩)
    · exact blanks_main v0 v1 ls bs w hm ht h0 h1 (by omega) (by omega)
end Go.Proofs.YtclcnmmhmjbjjaaDoor
