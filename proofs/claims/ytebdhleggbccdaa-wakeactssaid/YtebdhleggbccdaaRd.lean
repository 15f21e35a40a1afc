/- What the document's queue tells to be due. -/
import Derived.Test.YtebdhleggbccdaaWd
namespace Go.Proofs.Ytebdhleggbccdaa
open Go.RowKit

theorem below_drewN {B : Nat} {a w : World} (h : Below B a w) (q : Nat) : Below B a (w.drewN q) := ⟨h.os, h.tape, h.output, h.size, h.block⟩
theorem elem27 : Try.prog.elem 27 = 63 := by kernel_rfl
theorem under27 : Try.prog.underlying 27 = some (.slice (Try.prog.elem 27)) := by rw [elem27]; exact Try.underlying27
theorem size63 (w : World) : (sizeOf (Try.prog.elem 27)).run Try.prog w = .ok 2 w := by rw [elem27]; exact Try.sizeOf63 w
theorem info_s : (Try.prog.info? 9).map (fun i => (i.zero, i.size, i.bytes)) = some (some (.string ⟨#[]⟩), 1, 16) := by kernel_rfl
theorem own_nil' {w : World} {base e sz n c : Nat} {A : Option Addr} {cs : List Value} (h : w.ownsRow base e sz (.slice A n c) n cs) : A = none → c = 0 := fun hA => (own_nil_row h hA).2
abbrev sv (e : Ent) : List Value := [.string e.1]
theorem sv_len (e : Ent) : (sv e).length = 1 := rfl
theorem sv_one (e : Ent) : ∀ v ∈ sv e, v.oneCell' = true := by simp [sv, Value.oneCell']

set_option maxRecDepth 100000 in
set_option maxHeartbeats 8000000 in
theorem rdue_any {w : World} {base b : Nat} {v : Value} {L : List Ent} {q : Int} (h : RQ w base b v (L.map onOf)) (ok : Okq q L) (hn : L.length ≤ 1000) (lim : Int) :
    Calls Try.prog 19 #[.pointer (some ⟨b, 0, none⟩), .int .i64 lim] w fun e w' => ∃ A c, e = .returned (.slice A (dueQ lim L).length c) ∧ (dueQ lim L).length ≤ c ∧ Lies w' A (flat sv (dueQ lim L)) ∧ Below w.heap.size w w' := by
  obtain ⟨A0, c, rfl, hnc, hcm⟩ := own_len h.row
  rw [List.length_map] at hnc
  have HL := Lib.hid (lies_own h.row)
  have f0 := h.cell
  have H0 := Lib.hid (And.intro f0 h.lt)
  rw [List.length_map] at f0 H0
  have OK := Lib.hid ok
  clear h ok
  obtain ⟨n, hln⟩ : ∃ n, n = L.length := ⟨_, rfl⟩
  rw [← hln] at f0 hn hnc H0
  have HN := Lib.hid hln
  clear hln
  go_enter Try.func19, Try.ntmps19
  go_wp2
  go_loopw [5, 6] (fun v5 v6 wr => ∃ i a : Nat, i ≤ n ∧ v6 = .int .i64 (i : Int) ∧ Hid (∃ s : List Ent, Sofar lim L i s ∧ s.length = a ∧ wr.ownsRow w.heap.size 63 2 v5 a (flat enO (s.map onOf)) ∧ Below w.heap.size w wr)) (fun _ s _ => n - (intOf s).toNat)
  case atStart => exact ⟨0, 0, by omega, rfl, Lib.hid ⟨[], sofar_nil _ _, rfl, by simpa [flat] using World.ownsRow_nil _ _ _ _, Below.refl _ _⟩⟩
  case round =>
    clear f0
    obtain ⟨i, a, hi, rfl, G⟩ := hrel
    obtain ⟨wo, rfl⟩ : ∃ wo, wo = wr := ⟨_, rfl⟩
    obtain ⟨s, hs, hsl, hso, hsb⟩ := G.out
    have f0 : wo.cell? ⟨b, 0, none⟩ = some (.slice A0 n c) := (hsb.cell (p := ⟨b, 0, none⟩) H0.out.2).trans H0.out.1
    have hai : a ≤ i := by have := hs.length; omega
    by_cases hlt : i < n
    · obtain ⟨x, hx⟩ : ∃ x, L[i]? = some x := ⟨L[i]'(by have := HN.out; omega), List.getElem?_eq_getElem _⟩
      obtain ⟨xk, xa, xs⟩ := x
      generalize hxe : ((xk, xa, xs) : Ent) = x at hx
      have hx' : (L.map onOf)[i]? = some (xk, xa) := by rw [List.getElem?_map, hx, ← hxe]; rfl
      obtain ⟨ga, oa, rfl, hga, hc⟩ := HL.out.at enO_len (by omega) hx'
      have hcc : ∀ W, Below w.heap.size w W → W.cell? ⟨ga, oa + i * 2, none⟩ = some (.string xk) ∧ W.cell? ⟨ga, oa + i * 2 + 1, none⟩ = some (.int .i64 xa) := fun W hW => ⟨(hW.cell (p := ⟨ga, _, none⟩) hga).trans (hc 0 _ rfl), (hW.cell (p := ⟨ga, _, none⟩) hga).trans (hc 1 _ rfl)⟩
      have c1 := (hcc _ hsb).2
      have HX := Lib.hid (And.intro hx hcc)
      have HXE := Lib.hid hxe
      obtain ⟨Av, cv, rfl, hcv, hcm'⟩ := own_len hso
      have hm : cv ≤ 9223372036854775807 := by unfold maxLen at hcm'; omega
      have HV := Lib.hid (And.intro (lies_own hso) (And.intro (own_nil' hso) (And.intro hsb (And.intro hso (And.intro hsl hs)))))
      clear hx hx' hc hcc hsl hs hso hsb G hcm' hga hxe
      by_cases hle : xa ≤ lim
      · have hgt : ¬ lim < xa := by omega
        go_wp2
        clear c1 f0
        go_loopw [7] (fun t wi => ∃ k : Nat, k ≤ a ∧ t = .int .i64 k ∧ Hid (Below wo.heap.size wo wi ∧ ∀ j y, j < k → s[j]? = some y → y.2.1 ≤ xa)) (fun t _ => a - (intOf t).toNat)
        case atStart => exact ⟨0, Nat.zero_le _, rfl, Lib.hid ⟨Below.refl _ _, fun j y hj => by omega⟩⟩
        case round =>
          obtain ⟨k, hk, rfl, HQ⟩ := hrel
          have hxc1 : wr.cell? ⟨ga, oa + i * 2 + 1, none⟩ = some (.int .i64 xa) := (HX.out.2 _ (bel_trans HV.out.2.2.1 HQ.out.1)).2
          have hb0 : wr.cell? ⟨b, 0, none⟩ = some (.slice (some ⟨ga, oa, none⟩) n c) := ((bel_trans HV.out.2.2.1 HQ.out.1).cell (p := ⟨b, 0, none⟩) H0.out.2).trans H0.out.1
          by_cases c1 : k < a
          · obtain ⟨y, hy⟩ : ∃ y, s[k]? = some y := ⟨s[k]'(by have := HV.out.2.2.2.2.1; omega), List.getElem?_eq_getElem _⟩
            obtain ⟨gv, ov, rfl, _, hyc⟩ := (HV.out.1.later HQ.out.1).at enO_len (by omega) (show (s.map onOf)[k]? = some (onOf y) by rw [List.getElem?_map, hy]; rfl)
            have HYC : wr.cell? ⟨gv, ov + k * 2 + 1, none⟩ = some (.int .i64 y.2.1) := hyc 1 _ rfl
            clear hyc
            by_cases c2 : y.2.1 ≤ xa
            · have HQ2 : Hid (∀ j y, j < k + 1 → s[j]? = some y → y.2.1 ≤ xa) := Lib.hid fun j z hj hz => by
                by_cases e : j = k
                · subst e; rw [hy] at hz; injection hz with hz; subst hz; exact c2
                · exact HQ.out.2 j z (by omega) hz
              clear hy
              go_wp2_with fail
              go_quiet (fail)
              go_wp2
              exact ⟨⟨k + 1, by omega, by go_num, Lib.hid ⟨below_drewN HQ.out.1 _, HQ2.out⟩⟩, by simp [intOf]; omega⟩
            · have HP := Lib.hid (HV.out.2.2.2.2.2.put OK.out HX.out.1 (by rw [← HXE.out]; exact hle) (k := k) (fun j z hj hz => by rw [← HXE.out]; exact HQ.out.2 j z hj hz) (.inr ⟨y, hy, by rw [← HXE.out]; exact c2⟩))
              clear hy
              go_wp2_with fail
              go_quiet (fail)
              obtain ⟨W, hW⟩ : ∃ W, W = wr.drewN nq := ⟨_, rfl⟩
              rw [← hW]
              have HB : Hid (Below wo.heap.size wo W) := Lib.hid (by rw [hW]; exact below_drewN HQ.out.1 _)
              clear hW hxc1 hb0 HQ HYC
              obtain ⟨r, hr⟩ : ∃ r, r = a - k := ⟨_, rfl⟩
              obtain ⟨B1, d1, hr1, hl1, hn1, hd1⟩ := slice_to (P := Try.prog) (t := 27) (sz := 2) (i := a) under27 size63 (HV.out.1.later HB.out) HV.out.2.1 (k := k) (by omega)
              obtain ⟨B2, d2, hr2, hl2, hn2, hd2⟩ := slice_from (P := Try.prog) (t := 27) (sz := 2) under27 size63 (HV.out.1.later HB.out) HV.out.2.1 (by rw [length_flat enO_len, List.length_map]; rw [HV.out.2.2.2.2.1]) hk hcv hr
              have HR := Lib.hid (show k + 1 + r = a + 1 by omega)
              rw [flat_take enO_len, ← List.map_take] at hl1
              rw [flat_drop enO_len, ← List.map_drop] at hl2
              have e1 : (flat enO ((s.take k).map onOf)).length = k * 2 := by rw [length_flat enO_len, List.length_map, List.length_take]; have := HV.out.2.2.2.2.1; rw [Nat.min_eq_left (by omega)]
              have e2 : (flat enO ((s.drop k).map onOf)).length = r * 2 := by rw [length_flat enO_len, List.length_map, List.length_drop]; have := HV.out.2.2.2.2.1; rw [hr]; congr 1; omega
              have Q1 := Lib.hid (And.intro hl1 (And.intro (fun h => (show k = 0 ∧ d1 = 0 by have := hn1 h; omega)) (And.intro hl2 (fun h => (show r = 0 ∧ d2 = 0 by have := hn2 h; omega)))))
              have E := Lib.hid (And.intro e1 e2)
              have hin : a ≤ 1000 := by omega
              obtain ⟨V, hV⟩ : ∃ V, V = W.alloc (.cells #[] 63) := ⟨_, rfl⟩
              have hbV : Below W.heap.size W V := by rw [hV]; exact (Below.refl _ _).alloc (Nat.le_refl _) _
              have ho : V.ownsRow W.heap.size 63 2 (.slice (some ⟨W.heap.size, 0, none⟩) 0 0) 0 [] := by rw [hV]; exact own_empty W 63 2
              have HVb := Lib.hid hbV
              have HO := Lib.hid ho
              have HVw := Lib.hid hV
              have hrl : r ≤ 1000 := by omega
              clear hl1 hn1 hl2 hn2 e1 e2 hr hbV ho hV hd1 hd2
              go_wp2_with (first
                | (at_builtin; rw [← HVw.out]; refine append_src rfl (.tmp 52) (.tmp 55) 27 rfl W.heap.size 63 _ 2 _ Try.underlying27 info_o rfl (by decide) _ 0 [] rfl HO.out B1 k d1 _ rfl E.out.1 Q1.out.2.1 (Q1.out.1.later HVb.out) (flat_cell enO_one _) (by unfold maxLen; omega) (by omega) HVb.out.size ?_; intro v8 w8 ho8 hg8 _; rw [Nat.zero_add, List.nil_append] at ho8; have H8 := Lib.hid (bel_grown HVb.out HVb.out.size HO.out (Nat.le_refl _) hg8); have HO8 := Lib.hid ho8; have hx8 : w8.cell? ⟨ga, oa + i * 2, none⟩ = some (.string xk) := (HX.out.2 _ (bel_trans (bel_trans HV.out.2.2.1 HB.out) H8.out)).1; have hx9 : w8.cell? ⟨ga, oa + i * 2 + 1, none⟩ = some (.int .i64 xa) := (HX.out.2 _ (bel_trans (bel_trans HV.out.2.2.1 HB.out) H8.out)).2; have hb8 : w8.cell? ⟨b, 0, none⟩ = some (.slice (some ⟨ga, oa, none⟩) n c) := (bel_trans (bel_trans HV.out.2.2.1 HB.out) H8.out).cell (p := ⟨b, 0, none⟩) H0.out.2 |>.trans H0.out.1; obtain ⟨A8, c8, rfl, _, _⟩ := own_len ho8; clear ho8 hg8 HO)
                | (at_builtin; refine append_src rfl (.tmp 57) (.tmp 65) 27 rfl W.heap.size 63 _ 2 _ Try.underlying27 info_o rfl (by decide) (.slice A8 k c8) k _ rfl (own_below HO8.out ((Below.refl _ _).alloc (Nat.le_refl _) _) (Nat.le_refl _)) (some ⟨w8.heap.size, 0, none⟩) 1 1 (enO (xk, xa)) rfl rfl (fun h => by cases h) (lies_new w8 _ _) (enO_one _) (by unfold maxLen; omega) (by omega) (by have := H8.out.size; simp; omega) ?_; intro v9 w9 ho9 hg9 _; have H9 := Lib.hid (bel_grown (bel_trans H8.out ((Below.refl _ _).alloc (Nat.le_refl _) _)) (by have := H8.out.size; simp; omega) (own_below HO8.out ((Below.refl _ _).alloc (Nat.le_refl _) _) (Nat.le_refl _)) (Nat.le_refl _) hg9); have HO9 := Lib.hid ho9; obtain ⟨A9, c9, rfl, _, _⟩ := own_len ho9; clear ho9 hg9 HO8 H8 hx8 hx9 hb8)
                | (at_builtin; refine append_src rfl (.tmp 67) (.tmp 70) 27 rfl W.heap.size 63 _ 2 _ Try.underlying27 info_o rfl (by decide) (.slice A9 (k + 1) c9) (k + 1) _ rfl HO9.out B2 r d2 _ rfl E.out.2 Q1.out.2.2.2 (Q1.out.2.2.1.later H9.out) (flat_cell enO_one _) (by unfold maxLen; omega) (by omega) H9.out.size ?_; intro v10 w10 ho10 hg10 _; have H10 := Lib.hid (bel_grown H9.out H9.out.size HO9.out (Nat.le_refl _) hg10); have HO10 := Lib.hid ho10; clear ho10 hg10 HO9 H9))
              have hb10 := bel_trans (bel_trans HV.out.2.2.1 HB.out) H10.out
              have ho10 := own_base HO10.out (Nat.le_trans HV.out.2.2.1.size HB.out.size)
              rw [HR.out, List.append_assoc, show flat enO ((s.take k).map onOf) ++ (enO (xk, xa) ++ flat enO ((s.drop k).map onOf)) = flat enO ((s.take k ++ [x] ++ s.drop k).map onOf) by rw [List.map_append, List.map_append, flat_append, flat_append, List.append_assoc, ← HXE.out]; rfl] at ho10
              exact ⟨⟨i + 1, a + 1, by omega, by go_num, Lib.hid ⟨_, HP.out, by have := HV.out.2.2.2.2.1; simp; omega, ho10, hb10⟩⟩, by simp [intOf]; omega⟩
          · have HP := Lib.hid (HV.out.2.2.2.2.2.put OK.out HX.out.1 (by rw [← HXE.out]; exact hle) (k := k) (fun j z hj hz => by rw [← HXE.out]; exact HQ.out.2 j z hj hz) (.inl (by have := HV.out.2.2.2.2.1; omega)))
            have HYC : True := trivial
            go_wp2_with fail
            go_quiet (fail)
            obtain ⟨W, hW⟩ : ∃ W, W = wr.drewN nq := ⟨_, rfl⟩
            rw [← hW]
            have HB : Hid (Below wo.heap.size wo W) := Lib.hid (by rw [hW]; exact below_drewN HQ.out.1 _)
            clear hW hxc1 hb0 HQ HYC
            obtain ⟨r, hr⟩ : ∃ r, r = a - k := ⟨_, rfl⟩
            obtain ⟨B1, d1, hr1, hl1, hn1, hd1⟩ := slice_to (P := Try.prog) (t := 27) (sz := 2) (i := a) under27 size63 (HV.out.1.later HB.out) HV.out.2.1 (k := k) (by omega)
            obtain ⟨B2, d2, hr2, hl2, hn2, hd2⟩ := slice_from (P := Try.prog) (t := 27) (sz := 2) under27 size63 (HV.out.1.later HB.out) HV.out.2.1 (by rw [length_flat enO_len, List.length_map]; rw [HV.out.2.2.2.2.1]) hk hcv hr
            have HR := Lib.hid (show k + 1 + r = a + 1 by omega)
            rw [flat_take enO_len, ← List.map_take] at hl1
            rw [flat_drop enO_len, ← List.map_drop] at hl2
            have e1 : (flat enO ((s.take k).map onOf)).length = k * 2 := by rw [length_flat enO_len, List.length_map, List.length_take]; have := HV.out.2.2.2.2.1; rw [Nat.min_eq_left (by omega)]
            have e2 : (flat enO ((s.drop k).map onOf)).length = r * 2 := by rw [length_flat enO_len, List.length_map, List.length_drop]; have := HV.out.2.2.2.2.1; rw [hr]; congr 1; omega
            have Q1 := Lib.hid (And.intro hl1 (And.intro (fun h => (show k = 0 ∧ d1 = 0 by have := hn1 h; omega)) (And.intro hl2 (fun h => (show r = 0 ∧ d2 = 0 by have := hn2 h; omega)))))
            have E := Lib.hid (And.intro e1 e2)
            have hin : a ≤ 1000 := by omega
            obtain ⟨V, hV⟩ : ∃ V, V = W.alloc (.cells #[] 63) := ⟨_, rfl⟩
            have hbV : Below W.heap.size W V := by rw [hV]; exact (Below.refl _ _).alloc (Nat.le_refl _) _
            have ho : V.ownsRow W.heap.size 63 2 (.slice (some ⟨W.heap.size, 0, none⟩) 0 0) 0 [] := by rw [hV]; exact own_empty W 63 2
            have HVb := Lib.hid hbV
            have HO := Lib.hid ho
            have HVw := Lib.hid hV
            have hrl : r ≤ 1000 := by omega
            clear hl1 hn1 hl2 hn2 e1 e2 hr hbV ho hV hd1 hd2
            go_wp2_with (first
              | (at_builtin; rw [← HVw.out]; refine append_src rfl (.tmp 52) (.tmp 55) 27 rfl W.heap.size 63 _ 2 _ Try.underlying27 info_o rfl (by decide) _ 0 [] rfl HO.out B1 k d1 _ rfl E.out.1 Q1.out.2.1 (Q1.out.1.later HVb.out) (flat_cell enO_one _) (by unfold maxLen; omega) (by omega) HVb.out.size ?_; intro v8 w8 ho8 hg8 _; rw [Nat.zero_add, List.nil_append] at ho8; have H8 := Lib.hid (bel_grown HVb.out HVb.out.size HO.out (Nat.le_refl _) hg8); have HO8 := Lib.hid ho8; have hx8 : w8.cell? ⟨ga, oa + i * 2, none⟩ = some (.string xk) := (HX.out.2 _ (bel_trans (bel_trans HV.out.2.2.1 HB.out) H8.out)).1; have hx9 : w8.cell? ⟨ga, oa + i * 2 + 1, none⟩ = some (.int .i64 xa) := (HX.out.2 _ (bel_trans (bel_trans HV.out.2.2.1 HB.out) H8.out)).2; have hb8 : w8.cell? ⟨b, 0, none⟩ = some (.slice (some ⟨ga, oa, none⟩) n c) := (bel_trans (bel_trans HV.out.2.2.1 HB.out) H8.out).cell (p := ⟨b, 0, none⟩) H0.out.2 |>.trans H0.out.1; obtain ⟨A8, c8, rfl, _, _⟩ := own_len ho8; clear ho8 hg8 HO)
              | (at_builtin; refine append_src rfl (.tmp 57) (.tmp 65) 27 rfl W.heap.size 63 _ 2 _ Try.underlying27 info_o rfl (by decide) (.slice A8 k c8) k _ rfl (own_below HO8.out ((Below.refl _ _).alloc (Nat.le_refl _) _) (Nat.le_refl _)) (some ⟨w8.heap.size, 0, none⟩) 1 1 (enO (xk, xa)) rfl rfl (fun h => by cases h) (lies_new w8 _ _) (enO_one _) (by unfold maxLen; omega) (by omega) (by have := H8.out.size; simp; omega) ?_; intro v9 w9 ho9 hg9 _; have H9 := Lib.hid (bel_grown (bel_trans H8.out ((Below.refl _ _).alloc (Nat.le_refl _) _)) (by have := H8.out.size; simp; omega) (own_below HO8.out ((Below.refl _ _).alloc (Nat.le_refl _) _) (Nat.le_refl _)) (Nat.le_refl _) hg9); have HO9 := Lib.hid ho9; obtain ⟨A9, c9, rfl, _, _⟩ := own_len ho9; clear ho9 hg9 HO8 H8 hx8 hx9 hb8)
              | (at_builtin; refine append_src rfl (.tmp 67) (.tmp 70) 27 rfl W.heap.size 63 _ 2 _ Try.underlying27 info_o rfl (by decide) (.slice A9 (k + 1) c9) (k + 1) _ rfl HO9.out B2 r d2 _ rfl E.out.2 Q1.out.2.2.2 (Q1.out.2.2.1.later H9.out) (flat_cell enO_one _) (by unfold maxLen; omega) (by omega) H9.out.size ?_; intro v10 w10 ho10 hg10 _; have H10 := Lib.hid (bel_grown H9.out H9.out.size HO9.out (Nat.le_refl _) hg10); have HO10 := Lib.hid ho10; clear ho10 hg10 HO9 H9))
            have hb10 := bel_trans (bel_trans HV.out.2.2.1 HB.out) H10.out
            have ho10 := own_base HO10.out (Nat.le_trans HV.out.2.2.1.size HB.out.size)
            rw [HR.out, List.append_assoc, show flat enO ((s.take k).map onOf) ++ (enO (xk, xa) ++ flat enO ((s.drop k).map onOf)) = flat enO ((s.take k ++ [x] ++ s.drop k).map onOf) by rw [List.map_append, List.map_append, flat_append, flat_append, List.append_assoc, ← HXE.out]; rfl] at ho10
            exact ⟨⟨i + 1, a + 1, by omega, by go_num, Lib.hid ⟨_, HP.out, by have := HV.out.2.2.2.2.1; simp; omega, ho10, hb10⟩⟩, by simp [intOf]; omega⟩
      · go_wp2
        refine ⟨⟨i + 1, a, by omega, by go_num, Lib.hid ⟨s, HV.out.2.2.2.2.2.skip HX.out.1 (by rw [← HXE.out]; exact hle), HV.out.2.2.2.2.1, HV.out.2.2.2.1, HV.out.2.2.1⟩⟩, by simp [intOf]; omega⟩
    · obtain rfl : i = n := by omega
      have hd : s = dueQ lim L := hs.done OK.out (by have := HN.out; omega)
      subst hd
      obtain ⟨Av, cv, rfl, hcv, hcm'⟩ := own_len hso
      have HV := Lib.hid (And.intro (lies_own hso) (And.intro hsb hsl))
      clear hs hsl hso hsb G
      go_wp2
      go_loopw [9, 10] (fun v9 v10 wi => ∃ j : Nat, j ≤ a ∧ v10 = .int .i64 (j : Int) ∧ Hid (wi.ownsRow wo.heap.size 9 1 v9 j (flat sv ((dueQ lim L).take j)) ∧ Below wo.heap.size wo wi)) (fun _ s _ => a - (intOf s).toNat)
      case atStart => exact ⟨0, by omega, rfl, Lib.hid ⟨by simpa [flat] using World.ownsRow_nil _ _ _ _, Below.refl _ _⟩⟩
      case round =>
        obtain ⟨j, hj, rfl, R⟩ := hrel
        by_cases hja : j < a
        · obtain ⟨x, hx⟩ : ∃ x, (dueQ lim L)[j]? = some x := ⟨(dueQ lim L)[j]'(by have := HV.out.2.2; omega), List.getElem?_eq_getElem _⟩
          obtain ⟨g, o, rfl, hg, hc⟩ := (HV.out.1.later R.out.2).at enO_len (by omega) (show ((dueQ lim L).map onOf)[j]? = some (onOf x) by rw [List.getElem?_map, hx]; rfl)
          have c0 : wr.cell? ⟨g, o + j * 2, none⟩ = some (.string x.1) := hc 0 _ rfl
          have HX := Lib.hid (take_snoc_l hx)
          clear hc hg hx
          obtain ⟨A9, c9, rfl, _, _⟩ := own_len R.out.1
          go_wp2_with (at_builtin; refine append_src rfl (.tmp 78) (.tmp 84) 37 rfl wo.heap.size 9 _ 1 _ Try.underlying37 info_s rfl (by decide) _ _ _ rfl (own_below R.out.1 ((Below.refl _ _).alloc (Nat.le_refl _) _) (Nat.le_refl _)) (some ⟨wr.heap.size, 0, none⟩) 1 1 (sv x) rfl rfl (fun h => by cases h) (lies_new wr _ _) (sv_one _) (by unfold maxLen; omega) (by omega) (by have := R.out.2.size; simp; omega) ?_; intro v11 w11 ho11 hg11 _; have M := Lib.hid (And.intro ho11 hg11); clear ho11 hg11)
          refine ⟨⟨j + 1, by omega, by go_num, Lib.hid ⟨?_, ?_⟩⟩, by simp [intOf]; omega⟩
          · rw [HX.out, flat_append, flat_one]; exact M.out.1
          · exact bel_grown (R.out.2.alloc R.out.2.size _) (by have := R.out.2.size; simp; omega) (own_below R.out.1 ((Below.refl _ _).alloc (Nat.le_refl _) _) (Nat.le_refl _)) (Nat.le_refl _) M.out.2
        · obtain rfl : j = a := by omega
          obtain ⟨A9, c9, rfl, hc9, _⟩ := own_len R.out.1
          go_wp2
          go_ret
          have e : (dueQ lim L).take j = dueQ lim L := List.take_of_length_le (by have := HV.out.2.2; omega)
          have r1 := R.out.1
          rw [e] at r1
          have := HV.out.2.2
          exact ⟨A9, c9, by rw [this]; rfl, by omega, lies_own r1, bel_trans HV.out.2.1 R.out.2⟩
end Go.Proofs.Ytebdhleggbccdaa
