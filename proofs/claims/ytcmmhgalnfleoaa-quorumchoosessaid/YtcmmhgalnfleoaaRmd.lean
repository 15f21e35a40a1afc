/- The document's answers: each laid in its place. -/
import Derived.Test.YtcmmhgalnfleoaaApp
import Derived.Deep.QuietTactic
import Derived.BigQuiet
namespace Go.Proofs.Ytcmmhgalnfleoaa
open Go.RowKit

theorem add_zero' (a : Addr) : a.add 0 = a := by unfold Addr.add; split <;> simp_all
theorem elem22 : Try.prog.elem 22 = 2 := by kernel_rfl
theorem under22 : Try.prog.underlying 22 = some (.slice (Try.prog.elem 22)) := by rw [elem22]; exact Try.underlying22
theorem slice_to {w : World} {A : Option Addr} {i c k : Nat} {cs : List Value} (h : Lies w A cs) (hA : A = none → c = 0) (hk : k ≤ c) :
    ∃ B d, (∀ w, (Instr.slice 22 (.slice A i c) none (some (.int .i64 (k : Int))) none).run Try.prog w = .ok (.slice B k d) w) ∧ Lies w B (cs.take k) ∧ (B = none → d = 0) ∧ k ≤ d := by
  refine ⟨A, c, fun w => ?_, ?_, hA, hk⟩
  · have h1 := run_slice_h (P := Try.prog) (w := w) 22 A i c under22 .i64 (k : Int) (by omega) (by omega)
    rw [h1]
    simp only [Try.sizeOf2, sliced, Result.andThen, elem22]
    cases A with
    | none => simp
    | some a => simp [add_zero']
  · rcases h with rfl | ⟨g, o, e, hg, hc⟩
    · exact .inl (by simp)
    · exact .inr ⟨g, o, e, hg, fun j v hv => by rw [List.getElem?_take] at hv; split at hv; exact hc j v hv; cases hv⟩
theorem slice_from {w : World} {A : Option Addr} {i c k r : Nat} {cs : List Value} (h : Lies w A cs) (hA : A = none → c = 0) (hl : cs.length = i) (hk : k ≤ i) (hic : i ≤ c) (hr : r = i - k) :
    ∃ B d, (∀ w, (Instr.slice 22 (.slice A i c) (some (.int .i64 (k : Int))) none none).run Try.prog w = .ok (.slice B r d) w) ∧ Lies w B (cs.drop k) ∧ (B = none → d = 0) ∧ r ≤ d := by
  subst hr
  refine ⟨if c = k then A else A.map (·.add (k * 1)), c - k, fun w => ?_, ?_, ?_, by omega⟩
  · have h1 := run_slice_l (P := Try.prog) (w := w) 22 A i c under22 .i64 (k : Int) (by omega) (by omega)
    rw [h1]
    simp only [Try.sizeOf2, sliced, Result.andThen, elem22, Int.toNat_natCast]
  · rcases h with rfl | ⟨g, o, rfl, hg, hc⟩
    · exact .inl (by simp)
    · split
      · exact .inl (List.drop_eq_nil_of_le (by omega))
      · refine .inr ⟨g, o + k, by simp [add_none], hg, fun j v hv => ?_⟩
        rw [List.getElem?_drop] at hv
        have := hc _ v hv
        rwa [Nat.add_assoc]
  · intro h
    split at h
    · omega
    · cases A with
      | none => have := hA rfl; omega
      | some a => cases h

theorem below_drewN {B : Nat} {a w : World} (h : Below B a w) (q : Nat) : Below B a (w.drewN q) := ⟨h.os, h.tape, h.output, h.size, h.block⟩
theorem src_cell {w : World} {g o k : Nat} {cs : List Value} {v : Value} (h : Lies w (some ⟨g, o, none⟩) cs) (hk : cs[k]? = some v) : w.cell? ⟨g, o + k, none⟩ = some v := by
  obtain ⟨g', o', e, hc⟩ := h.cell hk
  injection e with e
  injection e with e1 e2 _
  subst e1 e2
  exact hc
theorem own_nil {w : World} {base e n c : Nat} {A : Option Addr} {cs : List Value} (h : w.ownsRow base e 1 (.slice A n c) n cs) : A = none → c = 0 := by
  rcases h.2 with ⟨e1, _⟩ | ⟨g, cap, cur, e1, _⟩
  · injection e1 with _ _ e3; intro _; exact e3
  · injection e1 with e1 _ _; intro h; rw [h] at e1; cases e1
set_option maxRecDepth 100000 in
set_option maxHeartbeats 4000000 in
theorem rsorted_any {w : World} {A0 : Option Addr} {c0 : Nat} (xs : List Int) (hb : xs.length ≤ 1000) (h : Lies w A0 (xs.map I)) :
    Calls Try.prog 26 #[.slice A0 xs.length c0] w fun e w' => ∃ v, e = .returned v ∧ w'.ownsRow w.heap.size 2 1 v xs.length ((xs.mergeSort leI).map I) ∧ Below w.heap.size w w' := by
  obtain ⟨n, hn⟩ : ∃ n, n = xs.length := ⟨_, rfl⟩
  rw [← hn] at hb ⊢
  have HN := Lib.hid hn
  have HL := Lib.hid h
  clear h hn
  go_enter Try.func26, Try.ntmps26
  go_wp2
  go_loopw [3, 4] (fun v i wr => ∃ k : Nat, k ≤ n ∧ i = .int .i64 k ∧ Hid (wr.ownsRow w.heap.size 2 1 v k (((xs.take k).mergeSort leI).map I) ∧ Below w.heap.size w wr)) (fun _ i _ => n - (intOf i).toNat)
  case atStart => exact ⟨0, Nat.zero_le _, rfl, Lib.hid ⟨by simpa using World.ownsRow_nil _ _ _ _, Below.refl _ _⟩⟩
  case round =>
    obtain ⟨i, hi, rfl, HI⟩ := hrel
    obtain ⟨wo, rfl⟩ : ∃ wo, wo = wr := ⟨_, rfl⟩
    by_cases hlt : i < n
    · obtain ⟨x, hx⟩ : ∃ x, xs[i]? = some x := ⟨xs[i]'(by have := HN.out; omega), List.getElem?_eq_getElem _⟩
      obtain ⟨s, hs⟩ : ∃ s, s = (xs.take i).mergeSort leI := ⟨_, rfl⟩
      have hsl : s.length = i := by rw [hs, List.length_mergeSort, List.length_take]; have := HN.out; omega
      have hins : ins s x = (xs.take (i + 1)).mergeSort leI := by
        rw [hs, ins_srt, List.take_succ_eq_append_getElem (by have := HN.out; omega), (List.getElem?_eq_some_iff.1 hx).2]
      have HI2 := HI.out
      rw [← hs] at HI2
      obtain ⟨Av, cv, rfl, hcv, hcm⟩ := own_len HI2.1
      have hAv : Av = none → cv = 0 := own_nil HI2.1
      have hm : cv ≤ 9223372036854775807 := by unfold maxLen at hcm; omega
      obtain ⟨ga, oa, rfl, hga⟩ := HL.out.cell (k := i) (v := I x) (by rw [List.getElem?_map, hx]; rfl)
      have HX := Lib.hid (show (xs.map I)[i]? = some (I x) by rw [List.getElem?_map, hx]; rfl)
      have HV := Lib.hid (And.intro (lies_own HI2.1) (And.intro hAv (And.intro HI2.2 (And.intro HI2.1 (And.intro hsl hins)))))
      clear hx hs hsl hins HI2 HI hAv hga hcm
      go_wp2
      go_loopw [5] (fun t wi => ∃ k : Nat, k ≤ i ∧ t = .int .i64 k ∧ Hid (Below wo.heap.size wo wi ∧ ∀ j, j < k → ∃ y, s[j]? = some y ∧ y ≤ x)) (fun t _ => i - (intOf t).toNat)
      case atStart => exact ⟨0, Nat.zero_le _, rfl, Lib.hid ⟨Below.refl _ _, fun j hj => by omega⟩⟩
      case round =>
        obtain ⟨k, hk, rfl, HQ⟩ := hrel
        have hxc : wr.cell? ⟨ga, oa + i, none⟩ = some (.int .i64 x) := by
          obtain ⟨g', o', e, hc⟩ := (HL.out.later (bel_trans HV.out.2.2.1 HQ.out.1)).cell HX.out
          injection e with e; injection e with e1 e2 _; subst e1 e2; exact hc
        by_cases c1 : k < i
        · obtain ⟨y, hy⟩ : ∃ y, s[k]? = some y := ⟨s[k]'(by have := HV.out.2.2.2.2.1; omega), List.getElem?_eq_getElem _⟩
          obtain ⟨gv, ov, rfl, hyc⟩ := (HV.out.1.later HQ.out.1).cell (k := k) (v := I y) (by rw [List.getElem?_map, hy]; rfl)
          by_cases c2 : y ≤ x
          · have HQ2 : Hid (∀ j, j < k + 1 → ∃ y, s[j]? = some y ∧ y ≤ x) := Lib.hid fun j hj => by
              by_cases e : j = k
              · subst e; exact ⟨y, hy, c2⟩
              · exact HQ.out.2 j (by omega)
            clear hy
            go_wp2_with fail
            go_quiet (fail)
            go_wp2
            exact ⟨⟨k + 1, by omega, by go_num, Lib.hid ⟨below_drewN HQ.out.1 _, HQ2.out⟩⟩, by simp [intOf]; omega⟩
          · have HP : Hid (place s x = k) := Lib.hid (place_is HQ.out.2 (.inr ⟨y, hy, c2⟩))
            clear hy
            go_wp2_with fail
            go_quiet (fail)
            obtain ⟨W, hW⟩ : ∃ W, W = wr.drewN nq := ⟨_, rfl⟩
            rw [← hW]
            have HB : Hid (Below wo.heap.size wo W) := Lib.hid (by rw [hW]; exact below_drewN HQ.out.1 _)
            clear hW hxc hyc c1 HQ
            obtain ⟨r, hr⟩ : ∃ r, r = i - k := ⟨_, rfl⟩
            obtain ⟨B1, d1, hr1, hl1, hn1, hd1⟩ := slice_to (i := i) (HV.out.1.later HB.out) HV.out.2.1 (k := k) (by omega)
            obtain ⟨B2, d2, hr2, hl2, hn2, hd2⟩ := slice_from (HV.out.1.later HB.out) HV.out.2.1 (by rw [List.length_map]; exact HV.out.2.2.2.2.1) hk hcv hr
            have HR := Lib.hid (show k + (0 + 1 + r) = i + 1 ∧ 0 + k + 1 + r = i + 1 by omega)
            rw [← List.map_take] at hl1
            rw [← List.map_drop] at hl2
            have Q1 := Lib.hid (And.intro hl1 (And.intro hn1 (And.intro hl2 hn2)))
            have e1 : (s.take k).length = k := by rw [List.length_take]; have := HV.out.2.2.2.2.1; omega
            have e2 : (s.drop k).length = r := by rw [List.length_drop]; have := HV.out.2.2.2.2.1; omega
            have E := Lib.hid (And.intro e1 e2)
            have hin : i ≤ 1000 := by omega
            obtain ⟨V, hV⟩ : ∃ V, V = W.alloc (.cells #[] 2) := ⟨_, rfl⟩
            have hbV : Below W.heap.size W V := by rw [hV]; exact (Below.refl _ _).alloc (Nat.le_refl _) _
            have ho : V.ownsRow W.heap.size 2 1 (.slice (some ⟨W.heap.size, 0, none⟩) 0 0) 0 (([] : List Int).map I) := by rw [hV]; exact own_empty W 2
            have HVb := Lib.hid hbV
            have HO := Lib.hid ho
            have HVw := Lib.hid hV
            have hrl : r ≤ 1000 := by omega
            clear hl1 hn1 hl2 hn2 e1 e2 hr hbV ho hV hd1 hd2
            go_wp2_with (first
              | (at_builtin; rw [← HVw.out]; refine app_i rfl (.tmp 30) (.tmp 33) rfl W.heap.size _ 0 [] rfl HO.out B1 k d1 (s.take k) rfl E.out.1 Q1.out.2.1 (Q1.out.1.later HVb.out) (by omega) HVb.out.size ?_; intro v8 w8 ho8 hg8 _; have H8 := Lib.hid (bel_grown HVb.out HO.out (Nat.le_refl _) hg8); have HO8 := Lib.hid ho8; have hx8 : w8.cell? ⟨ga, oa + i, none⟩ = some (.int .i64 x) := src_cell (HL.out.later (bel_trans (bel_trans HV.out.2.2.1 HB.out) H8.out)) HX.out; clear ho8 hg8 HO)
              | (at_builtin; refine app_i rfl (.tmp 35) (.tmp 40) rfl W.heap.size _ _ _ rfl (own_below HO8.out ((Below.refl _ _).alloc (Nat.le_refl _) _) (Nat.le_refl _)) (some ⟨w8.heap.size, 0, none⟩) 1 1 [x] rfl rfl (fun h => by cases h) (lies_new w8 [I x] 2) (by omega) (by have := H8.out.size; simp; omega) ?_; intro v9 w9 ho9 hg9 _; have H9 := Lib.hid (bel_grown (bel_trans H8.out ((Below.refl _ _).alloc (Nat.le_refl _) _)) (own_below HO8.out ((Below.refl _ _).alloc (Nat.le_refl _) _) (Nat.le_refl _)) (Nat.le_refl _) hg9); have HO9 := Lib.hid ho9; clear ho9 hg9 HO8 H8 hx8)
              | (at_builtin; refine app_i rfl (.tmp 42) (.tmp 45) rfl W.heap.size _ _ _ rfl HO9.out B2 r d2 (s.drop k) rfl E.out.2 Q1.out.2.2.2 (Q1.out.2.2.1.later H9.out) (by omega) H9.out.size ?_; intro v10 w10 ho10 hg10 _; have H10 := Lib.hid (bel_grown H9.out HO9.out (Nat.le_refl _) hg10); have HO10 := Lib.hid ho10; clear ho10 hg10 HO9 H9))
            have hb10 := bel_trans (bel_trans HV.out.2.2.1 HB.out) H10.out
            have ho10 := own_base HO10.out (Nat.le_trans HV.out.2.2.1.size HB.out.size)
            rw [HR.out.2, List.nil_append, List.append_assoc, show s.take k ++ ([x] ++ s.drop k) = (xs.take (i + 1)).mergeSort leI by rw [← HV.out.2.2.2.2.2, ins, HP.out]; rfl] at ho10
            exact ⟨⟨i + 1, by omega, by go_num, Lib.hid ⟨ho10, hb10⟩⟩, by simp [intOf]; omega⟩
        · have HP : Hid (place s x = k) := Lib.hid (place_is HQ.out.2 (.inl (by have := HV.out.2.2.2.2.1; omega)))
          go_wp2_with fail
          go_quiet (fail)
          obtain ⟨W, hW⟩ : ∃ W, W = wr.drewN nq := ⟨_, rfl⟩
          rw [← hW]
          have HB : Hid (Below wo.heap.size wo W) := Lib.hid (by rw [hW]; exact below_drewN HQ.out.1 _)
          clear hW hxc c1 HQ
          obtain ⟨r, hr⟩ : ∃ r, r = i - k := ⟨_, rfl⟩
          obtain ⟨B1, d1, hr1, hl1, hn1, hd1⟩ := slice_to (i := i) (HV.out.1.later HB.out) HV.out.2.1 (k := k) (by omega)
          obtain ⟨B2, d2, hr2, hl2, hn2, hd2⟩ := slice_from (HV.out.1.later HB.out) HV.out.2.1 (by rw [List.length_map]; exact HV.out.2.2.2.2.1) hk hcv hr
          have HR := Lib.hid (show k + (0 + 1 + r) = i + 1 ∧ 0 + k + 1 + r = i + 1 by omega)
          rw [← List.map_take] at hl1
          rw [← List.map_drop] at hl2
          have Q1 := Lib.hid (And.intro hl1 (And.intro hn1 (And.intro hl2 hn2)))
          have e1 : (s.take k).length = k := by rw [List.length_take]; have := HV.out.2.2.2.2.1; omega
          have e2 : (s.drop k).length = r := by rw [List.length_drop]; have := HV.out.2.2.2.2.1; omega
          have E := Lib.hid (And.intro e1 e2)
          have hin : i ≤ 1000 := by omega
          obtain ⟨V, hV⟩ : ∃ V, V = W.alloc (.cells #[] 2) := ⟨_, rfl⟩
          have hbV : Below W.heap.size W V := by rw [hV]; exact (Below.refl _ _).alloc (Nat.le_refl _) _
          have ho : V.ownsRow W.heap.size 2 1 (.slice (some ⟨W.heap.size, 0, none⟩) 0 0) 0 (([] : List Int).map I) := by rw [hV]; exact own_empty W 2
          have HVb := Lib.hid hbV
          have HO := Lib.hid ho
          have HVw := Lib.hid hV
          have hrl : r ≤ 1000 := by omega
          clear hl1 hn1 hl2 hn2 e1 e2 hr hbV ho hV hd1 hd2
          go_wp2_with (first
            | (at_builtin; rw [← HVw.out]; refine app_i rfl (.tmp 30) (.tmp 33) rfl W.heap.size _ 0 [] rfl HO.out B1 k d1 (s.take k) rfl E.out.1 Q1.out.2.1 (Q1.out.1.later HVb.out) (by omega) HVb.out.size ?_; intro v8 w8 ho8 hg8 _; have H8 := Lib.hid (bel_grown HVb.out HO.out (Nat.le_refl _) hg8); have HO8 := Lib.hid ho8; have hx8 : w8.cell? ⟨ga, oa + i, none⟩ = some (.int .i64 x) := src_cell (HL.out.later (bel_trans (bel_trans HV.out.2.2.1 HB.out) H8.out)) HX.out; clear ho8 hg8 HO)
            | (at_builtin; refine app_i rfl (.tmp 35) (.tmp 40) rfl W.heap.size _ _ _ rfl (own_below HO8.out ((Below.refl _ _).alloc (Nat.le_refl _) _) (Nat.le_refl _)) (some ⟨w8.heap.size, 0, none⟩) 1 1 [x] rfl rfl (fun h => by cases h) (lies_new w8 [I x] 2) (by omega) (by have := H8.out.size; simp; omega) ?_; intro v9 w9 ho9 hg9 _; have H9 := Lib.hid (bel_grown (bel_trans H8.out ((Below.refl _ _).alloc (Nat.le_refl _) _)) (own_below HO8.out ((Below.refl _ _).alloc (Nat.le_refl _) _) (Nat.le_refl _)) (Nat.le_refl _) hg9); have HO9 := Lib.hid ho9; clear ho9 hg9 HO8 H8 hx8)
            | (at_builtin; refine app_i rfl (.tmp 42) (.tmp 45) rfl W.heap.size _ _ _ rfl HO9.out B2 r d2 (s.drop k) rfl E.out.2 Q1.out.2.2.2 (Q1.out.2.2.1.later H9.out) (by omega) H9.out.size ?_; intro v10 w10 ho10 hg10 _; have H10 := Lib.hid (bel_grown H9.out HO9.out (Nat.le_refl _) hg10); have HO10 := Lib.hid ho10; clear ho10 hg10 HO9 H9))
          have hb10 := bel_trans (bel_trans HV.out.2.2.1 HB.out) H10.out
          have ho10 := own_base HO10.out (Nat.le_trans HV.out.2.2.1.size HB.out.size)
          rw [HR.out.2, List.nil_append, List.append_assoc, show s.take k ++ ([x] ++ s.drop k) = (xs.take (i + 1)).mergeSort leI by rw [← HV.out.2.2.2.2.2, ins, HP.out]; rfl] at ho10
          exact ⟨⟨i + 1, by omega, by go_num, Lib.hid ⟨ho10, hb10⟩⟩, by simp [intOf]; omega⟩
    · go_wp2
      go_ret
      obtain rfl : i = n := by omega
      have e : xs.take i = xs := List.take_of_length_le (by have := HN.out; omega)
      have := HI.out
      rw [e] at this
      exact ⟨_, rfl, this.1, this.2⟩
end Go.Proofs.Ytcmmhgalnfleoaa
