/- ConfLines' walk. -/
import Derived.Test.YtlbabhddjdhalaaDoorApps
import Derived.Test.YtlbabhddjdhalaaDoorWback
import Derived.Deep.CutBlock
import Derived.Deep.DeepCutAuto
import Derived.IntWalk
namespace Go.Proofs.YtlbabhddjdhalaaDoor
open Go.RowKit Go.Proofs.Lx

theorem arr_list (l : Bs) : (⟨l.toArray⟩ : ByteArray).data.toList = l := by simp
theorem below_drew {B : Nat} {w w' : World} (h : Below B w w') : Below B w w'.drew := ⟨h.os, h.tape, h.output, h.size, h.block⟩
/-- What is left out by one. -/
theorem less_cases {c : Cfg} (h : checkOf c = 0) {k : Nat} (hk : k < c.S.length + 4) : (parseOf (Lib.join (cut k ((linesC c).map (·.1))) [10])).2.1 = 0 ∧
    ((c.S.length ≤ k ∨ c.S.length = 1) → (parseOf (Lib.join (cut k ((linesC c).map (·.1))) [10])).2.2 = 13) ∧
    (¬ (c.S.length ≤ k ∨ c.S.length = 1) → (parseOf (Lib.join (cut k ((linesC c).map (·.1))) [10])).2.2 = if c.q < c.S.length then 0 else 3) := by
  by_cases h1 : c.S.length ≤ k
  · rw [less_other h h1 hk]
    exact ⟨rfl, fun _ => rfl, fun hn => absurd (.inl h1) hn⟩
  · by_cases h2 : c.S.length = 1
    · rw [less_one h (by omega) h2]
      exact ⟨rfl, fun _ => rfl, fun hn => absurd (.inr h2) hn⟩
    · have h0 : 0 < c.S.length := List.length_pos_iff.2 (check_zero h).1
      rw [less_server h (by omega) (by omega)]
      refine ⟨by split <;> rfl, fun hn => by omega, fun _ => by split <;> rfl⟩
theorem parse_str (s : ByteArray) (w : World) (hs : s.size ≤ 100000) (hm : Mx w) {c : Cfg} {n k : Nat} (h : parseOf s.data.toList = (c, n, k)) : Calls Tryd.prog 17 #[.string s] w fun e w' => ∃ A cp, e = .returned (.tuple #[cval (.slice A c.S.length cp) c, .int .i64 (n : Nat), .int .i64 (k : Nat)]) ∧ Ints w' (.slice A c.S.length cp) c.S ∧ Below w.heap.size w w' := by
  refine (parse_any s w hs hm).mono ?_
  rintro e w' ⟨v, h1, h2, h3⟩
  rw [h] at h1 h2
  obtain ⟨A, cp, rfl, _⟩ := h2.ints.len
  exact ⟨A, cp, h1, h2.ints, h3⟩
theorem pure_le {c : Cfg} (h : checkOf c = 0) : ∀ p ∈ (linesC c).map (·.1), p.length ≤ 60 := fun p hp => by
  obtain ⟨x, hx, rfl⟩ := List.mem_map.1 hp
  exact (lines_pure (fit_of h) x hx).len
theorem turn_map (c : Cfg) : ((linesC c).map (·.1)).drop c.S.length ++ ((linesC c).map (·.1)).take c.S.length = (turnC c).map (·.1) := by
  unfold turnC; simp
theorem ps_len (c : Cfg) : ((linesC c).map (·.1)).length = c.S.length + 4 := by rw [List.length_map, lines_len]

set_option maxRecDepth 100000 in
set_option maxHeartbeats 8000000 in
theorem walk_confLines (v0 : Value) (a1 : Int) (w : World) (w0 : CfgIn w v0) (w1 : (Lit.int .u8 a1).wf = true) (hm : Mx w) (ht : Pow w) :
    Calls Tryd.prog 6 #[v0, .int .u8 a1] w fun e w' => e = .returned (.bool true) ∧ Below w.heap.size w w' := by
  obtain ⟨bl, bu⟩ := bounds_u8 w1
  obtain ⟨u0, a, rfl, I0, s0, q0, l0, m0, d0, z0, n0⟩ := w0
  have R0 : CfgR a := ⟨s0, q0, l0, m0, d0, z0⟩
  obtain ⟨A, ca, rfl, hca⟩ := I0.len
  clear s0 q0 l0 m0 d0 z0 w1
  obtain ⟨W, hW⟩ : ∃ W, W = w.alloc (.cells #[.slice A a.S.length ca, .int .i64 a.q, .int .i64 a.l, .int .i64 a.m, .int .i64 a.d, .int .i64 a.s] 24) := ⟨_, rfl⟩
  have hbW : Below w.heap.size w W := by rw [hW]; exact below_alloc _ _
  have B0 : Box W w.heap.size (.slice A a.S.length ca) a := by rw [hW]; exact Box.new _ _ _
  have GO : ∀ u, Below W.heap.size W u → Below w.heap.size w u := fun u hu => hbW.trans (hu.mono hbW.size)
  have HGO := Lib.hid GO
  have HA : Hid (∀ u, Below W.heap.size W u → Box u w.heap.size (.slice A a.S.length ca) a) := fun u hu => B0.below hu B0.lt
  have KL : Hid (∀ u, Below W.heap.size W u → Calls Tryd.prog 10 #[] u fun e w' => e = .returned (.bool true) ∧ Below W.heap.size W w') := fun u hu =>
    (alive_any u (hm.below (GO u hu) (Nat.le_refl _))).mono fun e w' h => ⟨h.1, hu.trans (h.2.mono hu.size)⟩
  have KA : Hid (∀ u, Below W.heap.size W u → Calls Tryd.prog 11 #[cval (.slice A a.S.length ca) a] u fun e w' => e = .returned (.tuple #[.string (textZ a), .int .i64 (checkOf a : Nat)]) ∧ Below W.heap.size W w') := fun u hu =>
    (print_any _ a u (I0.below (GO u hu) (Nat.le_refl _)) R0 (ht.below (GO u hu) (Nat.le_refl _))).mono fun e w' h => ⟨h.1, hu.trans (h.2.mono hu.size)⟩
  have HWW : Hid (Below W.heap.size W W) := Below.refl _ _
  have HI : Hid (∀ u, Below W.heap.size W u → Ints u (.slice A a.S.length ca) a.S) := fun u hu => I0.below (GO u hu) (Nat.le_refl _)
  have HM : Hid (∀ u, Below W.heap.size W u → Mx u) := fun u hu => hm.below (GO u hu) (Nat.le_refl _)
  unfold cval at KA ⊢
  obtain ⟨N, hN⟩ : ∃ N, N = a.S.length := ⟨_, rfl⟩
  obtain ⟨x, hx⟩ : ∃ x, x = checkOf a := ⟨_, rfl⟩
  obtain ⟨ta, hta⟩ : ∃ t, t = textZ a := ⟨_, rfl⟩
  have HX := Lib.hid hx
  have HN := Lib.hid hN
  have HTA := Lib.hid hta
  rw [← hN] at HA KA n0 hca hW HI ⊢
  rw [← hx, ← hta] at KA
  clear GO hbW B0 I0 R0 hm ht hN hx hta
  unfold maxLen at n0
  by_cases c1 : (100 : Int) < (N : Int)
  · go_enter Tryd.func6, Tryd.ntmps6
    go_wp2_with (rw [← hW]; go_at_call 10; refine (KL.out W HWW.out).mono ?_; rintro e w1 ⟨rfl, hb1⟩)
    go_ret
    exact ⟨rfl, HGO.out _ hb1⟩
  by_cases hx0 : x = 0
  case neg =>
    have t1 : ((x : Int) != 0) = true := by simp; omega
    go_enter Tryd.func6, Tryd.ntmps6
    go_wp2_with fail
    rw [← hW]
    refine (KA.out W HWW.out).mono ?_
    rintro e w1 ⟨rfl, hb1⟩
    go_wp2_with fail
    refine (KL.out w1 hb1).mono ?_
    rintro e w2 ⟨rfl, hb2⟩
    go_wp2
    go_ret
    exact ⟨rfl, HGO.out _ hb2⟩
  case pos =>
    subst hx0
    have hchk : checkOf a = 0 := HX.out.symm
    have h16 : N ≤ 16 := by rw [HN.out]; exact (check_small hchk).1
    have hpos : 0 < N := by rw [HN.out]; exact List.length_pos_iff.2 (check_zero hchk).1
    obtain ⟨ps, hps⟩ : ∃ ps, ps = (linesC a).map (·.1) := ⟨_, rfl⟩
    have HPL : Hid (ps.length = N + 4) := by rw [hps, HN.out]; exact ps_len a
    have HP60 : Hid (∀ p ∈ ps, p.length ≤ 60) := by rw [hps]; exact pure_le hchk
    obtain ⟨tt, htt⟩ : ∃ t, t = (⟨(Lib.trimSuffix ta.data.toList [10]).toArray⟩ : ByteArray) := ⟨_, rfl⟩
    have HTL : Hid (linesOf tt.data.toList = ps) := by
      rw [htt, hps, arr_list, HTA.out, textZ_list, textC_ok hchk]
      exact split_print a
    have hta2 : ta.size ≤ 2000 := by rw [HTA.out]; exact textZ_size a
    have htt2 : tt.size ≤ 2000 := by
      have h1 : tt.data.toList.length ≤ ta.data.toList.length := by
        rw [htt, arr_list]
        unfold Lib.trimSuffix
        split
        · simp
        · exact Nat.le_refl _
      rw [len_eq, len_eq] at h1
      omega
    have K20 : Hid (∀ u, Calls Tryd.prog 20 #[.string ta, .string ⟨#[10]⟩] u fun e w' => e = .returned (.string tt) ∧ w' = u) := fun u => by
      rw [htt]; exact trim_any ta u (by omega)
    have K19 : Hid (∀ u, Below W.heap.size W u → Calls Tryd.prog 19 #[.string tt, .string ⟨#[10]⟩] u fun e w' => e = .returned (.slice (some ⟨u.heap.size, 0, none⟩) (N + 4) (N + 4)) ∧ SAt w' u.heap.size 0 ps ∧ Below u.heap.size u w') := fun u hu => by
      have := splits_any tt u (by omega) (HM.out u hu)
      rw [HTL.out, HPL.out] at this
      exact this
    -- turned
    obtain ⟨j1, hj1⟩ : ∃ j, j = (⟨(Lib.join (ps.drop N ++ ps.take N) sepX).toArray⟩ : ByteArray) := ⟨_, rfl⟩
    have hz1 : (Lib.join (ps.drop N ++ ps.take N) sepX).length ≤ 70 * (N + 4) := by
      have := join_le sepX (by decide) (ps.drop N ++ ps.take N) (fun p hp => by
        rcases List.mem_append.1 hp with hp | hp
        · exact HP60.out p (List.mem_of_mem_drop hp)
        · exact HP60.out p (List.mem_of_mem_take hp))
      have e : (ps.drop N ++ ps.take N).length = N + 4 := by rw [List.length_append, List.length_drop, List.length_take, HPL.out]; omega
      rw [e] at this; exact this
    have hs1 : j1.size ≤ 2000 := by rw [hj1]; show (Lib.join (ps.drop N ++ ps.take N) sepX).length ≤ 2000; omega
    have K21a : Hid (∀ u g c, SAt u g 0 (ps.drop N ++ ps.take N) → N + 4 ≤ c → Calls Tryd.prog 21 #[.slice (some ⟨g, 0, none⟩) (N + 4) c, .string ⟨#[32, 35, 32, 120, 10, 10]⟩] u fun e w' => e = .returned (.string j1) ∧ Below u.heap.size u w') := fun u g c hs hc => by
      have e : (ps.drop N ++ ps.take N).length = N + 4 := by rw [List.length_append, List.length_drop, List.length_take, HPL.out]; omega
      have := joins_any g 0 c (ps.drop N ++ ps.take N) ⟨#[32, 35, 32, 120, 10, 10]⟩ u hs (by rw [e]; exact hc) (by rw [e]; omega) (Nat.le_trans hz1 (by omega))
      rw [e] at this
      rw [hj1]; exact this
    have K17a : Hid (∀ u, Below W.heap.size W u → Calls Tryd.prog 17 #[.string (⟨#[35, 32, 97, 32, 114, 101, 109, 97, 114, 107, 10, 10]⟩ ++ j1)] u fun e w' => ∃ E ce, e = .returned (.tuple #[cval (.slice E a.S.length ce) a, .int .i64 ((0 : Nat) : Int), .int .i64 ((0 : Nat) : Int)]) ∧ Ints w' (.slice E a.S.length ce) a.S ∧ Below u.heap.size u w') := fun u hu =>
      parse_str _ u (by rw [ByteArray.size_append]; have : (⟨#[35, 32, 97, 32, 114, 101, 109, 97, 114, 107, 10, 10]⟩ : ByteArray).size = 12 := rfl; omega) (HM.out u hu) (by
        rw [str_app, hj1, arr_list, hps, HN.out, turn_map]
        exact parse_turned hchk)
    have K14 : Hid (∀ u E ce, Below W.heap.size W u → Ints u (.slice E N ce) a.S → Calls Tryd.prog 14 #[cval (.slice A N ca) a, cval (.slice E N ce) a] u fun e w' => e = .returned (.bool true) ∧ Below u.heap.size u w') := fun u E ce hu hi => by
      have := same_any _ _ a a u (HI.out u hu) hi (by rw [← HN.out]; omega) (by rw [← HN.out]; omega)
      rw [decide_eq_true rfl] at this
      exact this
    -- twice, less
    obtain ⟨k, hk⟩ : ∃ k : Nat, k = a1.toNat % (N + 4) := ⟨_, rfl⟩
    have hkl : k < N + 4 := by rw [hk]; exact Nat.mod_lt _ (by omega)
    have hk1 : a1.tmod ((N + 4 : Nat) : Int) = (k : Int) := by
      rw [hk, ← Int.toNat_of_nonneg bl]; rfl
    obtain ⟨p, hp⟩ : ∃ p, p = ps[k]'(by rw [HPL.out]; exact hkl) := ⟨_, rfl⟩
    have HPK : Hid (ps[k]? = some p) := by rw [hp]; exact List.getElem?_eq_getElem _
    have HPM : Hid (p ∈ ps) := by rw [hp]; exact List.getElem_mem _
    have eT : (ps ++ [p]).length = N + 5 := by rw [List.length_append, HPL.out]; rfl
    have hz2 : (Lib.join (ps ++ [p]) [10]).length ≤ 70 * (N + 5) := by
      have := join_le [10] (by decide) (ps ++ [p]) (fun q hq => by
        rcases List.mem_append.1 hq with hq | hq
        · exact HP60.out q hq
        · simp at hq; subst hq; exact HP60.out q HPM.out)
      rw [eT] at this; exact this
    obtain ⟨j2, hj2⟩ : ∃ j, j = (⟨(Lib.join (ps ++ [p]) [10]).toArray⟩ : ByteArray) := ⟨_, rfl⟩
    have K21b : Hid (∀ u g c, SAt u g 0 (ps ++ [p]) → N + 5 ≤ c → Calls Tryd.prog 21 #[.slice (some ⟨g, 0, none⟩) (N + 5) c, .string ⟨#[10]⟩] u fun e w' => e = .returned (.string j2) ∧ Below u.heap.size u w') := fun u g c hs hc => by
      have := joins_any g 0 c (ps ++ [p]) ⟨#[10]⟩ u hs (by rw [eT]; exact hc) (by rw [eT]; omega) (Nat.le_trans hz2 (by omega))
      rw [eT] at this
      rw [hj2]; exact this
    have K17b : Hid (∀ u, Below W.heap.size W u → Calls Tryd.prog 17 #[.string j2] u fun e w' => ∃ E ce, e = .returned (.tuple #[.agg #[.slice E 0 ce, .int .i64 0, .int .i64 0, .int .i64 0, .int .i64 0, .int .i64 0], .int .i64 ((N + 5 : Nat) : Int), .int .i64 12]) ∧ Below u.heap.size u w') := fun u hu => by
      have := parse_str j2 u (by rw [hj2]; show (Lib.join (ps ++ [p]) [10]).length ≤ 100000; omega) (HM.out u hu) (c := Cfg.none) (n := N + 5) (k := 12) (by
        rw [hj2, arr_list, hps, HN.out]
        exact parse_twice hchk (by rw [← hps]; exact HPM.out))
      exact this.mono fun e w' ⟨E, ce, h1, _, h3⟩ => ⟨E, ce, h1, h3⟩
    have eL : (cut k ps).length = N + 3 := by rw [cut_len k ps (by rw [HPL.out]; exact hkl), HPL.out]; omega
    have hz3 : (Lib.join (cut k ps) [10]).length ≤ 70 * (N + 3) := by
      have := join_le [10] (by decide) (cut k ps) (fun q hq => HP60.out q ((cut_sub k ps).subset hq))
      rw [eL] at this; exact this
    obtain ⟨j3, hj3⟩ : ∃ j, j = (⟨(Lib.join (cut k ps) [10]).toArray⟩ : ByteArray) := ⟨_, rfl⟩
    have K21c : Hid (∀ u g c, SAt u g 0 (ps.take k ++ ps.drop (k + 1)) → N + 3 ≤ c → Calls Tryd.prog 21 #[.slice (some ⟨g, 0, none⟩) (N + 3) c, .string ⟨#[10]⟩] u fun e w' => e = .returned (.string j3) ∧ Below u.heap.size u w') := fun u g c hs hc => by
      have := joins_any g 0 c (cut k ps) ⟨#[10]⟩ u hs (by rw [eL]; exact hc) (by rw [eL]; omega) (Nat.le_trans hz3 (by omega))
      rw [eL] at this
      rw [hj3]; exact this
    obtain ⟨y, hy⟩ : ∃ y, y = (parseOf (Lib.join (cut k ps) [10])).2.2 := ⟨_, rfl⟩
    obtain ⟨b, hb⟩ : ∃ b, b = (parseOf (Lib.join (cut k ps) [10])).1 := ⟨_, rfl⟩
    have hless := less_cases hchk (k := k) (by rw [← HN.out]; exact hkl)
    rw [← hps, ← HN.out, ← hy] at hless
    have K17c : Hid (∀ u, Below W.heap.size W u → Calls Tryd.prog 17 #[.string j3] u fun e w' => ∃ E ce, e = .returned (.tuple #[cval (.slice E b.S.length ce) b, .int .i64 0, .int .i64 (y : Int)]) ∧ Below u.heap.size u w') := fun u hu => by
      have := parse_str j3 u (by rw [hj3]; show (Lib.join (cut k ps) [10]).length ≤ 100000; omega) (HM.out u hu) (c := b) (n := 0) (k := y) (by
        rw [hj3, arr_list, hy, hb, ← hless.1])
      exact this.mono fun e w' ⟨E, ce, h1, _, h3⟩ => ⟨E, ce, h1, h3⟩
    have HY1 := Lib.hid hless.2.1
    have HY2 := Lib.hid hless.2.2
    unfold cval at K17a K14 K17c
    rw [← HN.out] at K17a
    obtain ⟨M, hM⟩ : ∃ M, M = b.S.length := ⟨_, rfl⟩
    rw [← hM] at K17c
    clear hless hy hb hj3 hz3 eL hj2 hz2 eT hp hk hj1 hz1 htt hps hchk hM
    have h12 : (⟨#[35, 32, 97, 32, 114, 101, 109, 97, 114, 107, 10, 10]⟩ : ByteArray).size = 12 := rfl
    go_enter Tryd.func6, Tryd.ntmps6
    go_wp2_with fail
    rw [← hW]
    refine (KA.out W HWW.out).mono ?_
    rintro e w1 ⟨rfl, hb1⟩
    obtain ⟨r0, r1, r2, r3, r4, r5⟩ := (HA.out w1 hb1).cells
    go_wp2_with fail
    refine (K20.out w1).mono ?_
    rintro e w1' ⟨rfl, hw1⟩
    subst hw1
    go_wp2_with fail
    refine (K19.out _ hb1).mono ?_
    rintro e V ⟨rfl, hsV, hbV⟩

    have hWV : Below W.heap.size W V := hb1.trans (hbV.mono hb1.size)
    have HSV := Lib.hid hsV
    have HWV := Lib.hid hWV
    have HVL : Hid (w1'.heap.size < V.heap.size) := hsV.1
    obtain ⟨gl, hgl⟩ : ∃ g, g = w1'.heap.size := ⟨_, rfl⟩
    rw [← hgl] at HSV HVL ⊢
    clear hsV hbV hgl hWV hb1 r0 r1 r2 r3 r4 r5
    obtain ⟨r0, _⟩ := (HA.out V HWV.out).cells
    obtain ⟨L, hL⟩ : ∃ L, L = N + 4 := ⟨_, rfl⟩
    rw [← hL]
    have HL := Lib.hid hL
    have l1 : ((L : Int) != (N : Int) + 4) = false := by simp; omega
    have l2 : (N : Int) ≤ (L : Int) := by omega
    have l3 : ¬ L = N := by omega
    have l4 : L - N = 4 := by omega
    clear hL
    go_wp2_with fail
    obtain ⟨wd, hwd⟩ : ∃ wd, wd = V.drew := ⟨_, rfl⟩
    have HBd : Hid (Below V.heap.size V wd) := by show Below _ _ _; rw [hwd]; exact below_drew (Below.refl _ _)
    have HWd : Hid (Below W.heap.size W wd) := HWV.out.trans (HBd.out.mono HWV.out.size)
    have HSd := Lib.hid (HSV.out.below HBd.out HVL.out)
    have HGd : Hid (gl < wd.heap.size) := HSd.out.1
    have HD4 : Hid (4 = (ps.drop N).length) := by show _ = _; rw [List.length_drop, HPL.out]; omega
    have HTN : Hid (N = (ps.take N).length) := by show _ = _; rw [List.length_take, HPL.out]; omega
    refine wp_region_held_drew (S := (fun _ => True)) (by kernel_rfl) trivial (fun hHeld => ?_)
    rw [← hwd]
    clear hwd
    refine wpAnyH_take (i := 1) (v := ?_) rfl (by kernel_rfl) (by kernel_rfl) (by kernel_rfl) (fun _ _ _ h => h) (Or.inl ⟨by rfl, ?_⟩) (by assumption) ?_
    rotate_left
    · (intro w hSw; (try dsimp only at hSw); go_simp; try with_reducible rfl)
    refine wpAnyH_take (i := 2) (v := ?_) rfl (by kernel_rfl) (by kernel_rfl) (by kernel_rfl) (fun _ _ _ h => h) (Or.inl ⟨by rfl, ?_⟩) (by assumption) ?_
    rotate_left
    · (intro w hSw; (try dsimp only at hSw); go_simp; try with_reducible rfl)
    refine wpAnyH_take (i := 3) (v := ?_) rfl (by kernel_rfl) (by kernel_rfl) (by kernel_rfl) (fun _ _ _ h => h) (Or.inl ⟨by rfl, ?_⟩) (by assumption) ?_
    rotate_left
    · (intro w hSw; (try dsimp only at hSw); go_simp; try with_reducible rfl)
    refine wpAnyH_take (i := 5) (v := ?_) rfl (by kernel_rfl) (by kernel_rfl) (by kernel_rfl) (fun _ _ _ h => h) (Or.inl ⟨by rfl, ?_⟩) (by assumption) ?_
    rotate_left
    · (intro w hSw; (try dsimp only at hSw); go_simp; try with_reducible rfl)
    refine wpAnyH_take (i := 6) (v := ?_) rfl (by kernel_rfl) (by kernel_rfl) (by kernel_rfl) (fun _ _ _ h => h) (Or.inl ⟨by rfl, ?_⟩) (by assumption) ?_
    rotate_left
    · (intro w hSw; (try dsimp only at hSw); go_simp; try with_reducible rfl)
    refine wpAnyH_take (i := 7) (v := ?_) rfl (by kernel_rfl) (by kernel_rfl) (by kernel_rfl) (fun _ _ _ h => h) (Or.inl ⟨by rfl, ?_⟩) (by assumption) ?_
    rotate_left
    · (intro w hSw; (try dsimp only at hSw); go_simp; try with_reducible rfl)
    refine wpAnyH_ready (rs := [0]) (by kernel_rfl) (by simp) ?_
    refine AllReadyH.cons rfl (fun K hK => ?_) AllReadyH.nil

    go_simp
    refine hK.out _ _ trivial (fun hHeld => ?_)
    clear hK K
    have HBa : Hid (Below wd.heap.size wd (wd.alloc (.cells #[] 9))) := below_alloc _ _
    refine wpAnyH_ready (rs := [4]) (by kernel_rfl) (by simp) ?_
    refine AllReadyH.cons rfl (fun K hK => ?_) AllReadyH.nil

    refine step_append_strs rfl (.tmp 43) (.tmp 46) rfl wd.heap.size (.slice (some ⟨wd.heap.size, 0, none⟩) 0 0) 0 4 [] (ps.drop N) (by go_simp) rfl (Strs.empty wd _ (Nat.le_refl _)) gl N 4 (by go_simp) HD4.out (by have := (HSd.out.below HBa.out HGd.out).drop N; rw [Nat.zero_add] at this; exact this) (by omega) (by simp) ?_
    intro A1 cap1 w2 hst1 hbl1 _
    have HT1 := Lib.hid hst1
    have HB1 : Hid (Below wd.heap.size wd w2) := HBa.out.trans hbl1
    clear hst1 hbl1
    refine hK.out _ _ trivial (fun hHeld => ?_)
    clear hK K
    refine wpAnyH_ready (rs := [8]) (by kernel_rfl) (by simp) ?_
    refine AllReadyH.cons rfl (fun K hK => ?_) AllReadyH.nil

    refine step_append_strs rfl (.tmp 47) (.tmp 50) rfl wd.heap.size (.slice A1 (0 + 4) cap1) (0 + 4) N ([] ++ ps.drop N) (ps.take N) (by go_simp) (by rw [List.nil_append, ← HD4.out]) HT1.out gl 0 L (by go_simp) HTN.out ((HSd.out.below HB1.out HGd.out).take N) (by omega) HB1.out.size ?_
    intro A2 cap2 w3 hst2 hbl2 _
    rw [List.nil_append] at hst2
    have HT2 := Lib.hid hst2
    have HB2 : Hid (Below wd.heap.size wd w3) := HB1.out.trans hbl2
    clear hst2 hbl2 HT1
    refine hK.out _ _ trivial (fun hHeld => ?_)
    clear hK K
    refine wpAnyH_take (i := 9) (v := ?_) rfl (by kernel_rfl) (by kernel_rfl) (by kernel_rfl) (fun _ _ _ h => h) (Or.inl ⟨by rfl, ?_⟩) (by assumption) ?_
    rotate_left
    · (intro w hSw; (try dsimp only at hSw); go_simp; try with_reducible rfl)
    refine wpAnyH_done (by kernel_rfl) ?_ _
    go_simp
    obtain ⟨g3, c3, e3, hc3, hs3⟩ := Strs.sat HT2.out (by rw [List.length_append, ← HD4.out]; omega)
    injection e3 with e3 e3b e3c
    have e4N : (ps.drop N ++ ps.take N).length = 4 + N := by rw [List.length_append, ← HD4.out, ← HTN.out]
    rw [e4N] at hc3
    subst e3 e3c
    clear e3b e4N
    have HS3 := Lib.hid hs3
    have HV3 : Hid (Below V.heap.size V w3) := HBd.out.trans (HB2.out.mono HBd.out.size)
    have HW3 : Hid (Below W.heap.size W w3) := HWV.out.trans (HV3.out.mono HWV.out.size)
    have K1 := Lib.hid (K21a.out w3 g3 cap2 HS3.out (by omega))
    rw [show N + 4 = 4 + N by omega] at K1
    clear hs3 hHeld HBa HB1 HB2 HT2 HBd HWd HSd HGd HD4 HTN
    go_wp2_with fail
    refine K1.out.mono ?_
    rintro e w4 ⟨rfl, hb4⟩
    have HV4 : Hid (Below V.heap.size V w4) := HV3.out.trans (hb4.mono HV3.out.size)
    have HW4 : Hid (Below W.heap.size W w4) := HWV.out.trans (HV4.out.mono HWV.out.size)
    clear hb4 K1 HS3 HV3 HW3
    go_wp2_with fail
    refine (K17a.out w4 HW4.out).mono ?_
    rintro e w5 ⟨E, ce, rfl, hi5, hb5⟩
    have HV5 : Hid (Below V.heap.size V w5) := HV4.out.trans (hb5.mono HV4.out.size)
    have HW5 : Hid (Below W.heap.size W w5) := HWV.out.trans (HV5.out.mono HWV.out.size)
    obtain ⟨r0, r1, r2, r3, r4, r5⟩ := (HA.out w5 HW5.out).cells
    have lt5 := (HA.out w5 HW5.out).lt
    have HI5 := Lib.hid hi5
    clear hb5 hi5 HV4 HW4
    obtain ⟨X, hX⟩ : ∃ X, X = w5.alloc (.cells #[.slice E N ce, .int .i64 a.q, .int .i64 a.l, .int .i64 a.m, .int .i64 a.d, .int .i64 a.s] 24) := ⟨_, rfl⟩
    have HVX : Hid (Below V.heap.size V X) := by show Below _ _ _; rw [hX]; exact HV5.out.alloc HV5.out.size _
    have HWX : Hid (Below W.heap.size W X) := HWV.out.trans (HVX.out.mono HWV.out.size)
    have HIX : Hid (Ints X (.slice E N ce) a.S) := by show Ints _ _ _; rw [hX]; exact HI5.out.alloc _
    go_wp2_with fail
    rw [← hX]
    refine (K14.out X E ce HWX.out HIX.out).mono ?_
    rintro e w6 ⟨rfl, hb6⟩
    have HV6 : Hid (Below V.heap.size V w6) := HVX.out.trans (hb6.mono HVX.out.size)
    clear hb6 hX HVX HWX HIX HI5 HV5 HW5 r0 r1 r2 r3 r4 r5 lt5
    have k1 : a1.tmod (L : Int) = (k : Int) := by rw [HL.out]; exact hk1
    have k2 : a1 % (L : Int) = (k : Int) := by rw [← k1]; exact (Int.tmod_eq_emod_of_nonneg bl).symm
    have k3 : ((L : Int) == 0) = false := by simp; omega
    have k4 : (k : Int) < (L : Int) := by omega
    have k5 : (0 : Int) ≤ (k : Int) := by omega
    have k6 : ¬ (L : Int) = 0 := by omega
    rw [show N + 5 = L + 1 by omega] at K21b K17b
    clear hk1
    have HS6 := Lib.hid (HSV.out.below HV6.out HVL.out)
    obtain ⟨pS, hpS⟩ : ∃ s : ByteArray, s = ⟨p.toArray⟩ := ⟨_, rfl⟩
    have HPS : Hid (Str p = .string pS) := by rw [hpS]; rfl
    clear hpS
    go_upto_region 15 with fail
    go_cut [14] (fun s wc => ∃ g c, s = .slice (some ⟨g, 0, none⟩) (L + 1) c ∧ L + 1 ≤ c ∧ SAt wc g 0 (ps ++ [p]) ∧ Below V.heap.size V wc)
    case first =>
      obtain ⟨wd, hwd⟩ : ∃ wd, wd = w6.drew := ⟨_, rfl⟩
      have HBd : Hid (Below V.heap.size V wd) := by show Below _ _ _; rw [hwd]; exact below_drew HV6.out
      have HSd := Lib.hid (HSV.out.below HBd.out HVL.out)
      have HGd : Hid (gl < wd.heap.size) := HSd.out.1
      have HCD : Hid (wd.cell? ⟨gl, k, none⟩ = some (.string pS)) := by
        have := HSd.out.2 k p HPK.out
        rw [Nat.zero_add, HPS.out] at this
        exact this
      have HPLL : Hid (L = ps.length) := by show _ = _; rw [HPL.out]; exact HL.out
      have HONE : Hid (∀ u : World, SAt (u.alloc (.cells #[.string pS] 9)) u.heap.size 0 [p]) := by
        intro u
        rw [← HPS.out]; exact SAt.one u p
      have HSZ : Hid (∀ (u : World) (o : Obj), (u.alloc o).heap.size = u.heap.size + 1) := fun u o => by simp
      have HCA : Hid (∀ (u : World) (o : Obj), u.cell? ⟨gl, k, none⟩ = some (.string pS) → (u.alloc o).cell? ⟨gl, k, none⟩ = some (.string pS)) := fun u o h => (World.cell?_alloc_some u _ o (by rw [h]; rfl)).trans h
      refine wp_region_held_drew (S := (fun W' => W'.cell? ⟨gl, k, none⟩ = some (.string pS))) (by kernel_rfl) (by rw [← hwd]; exact HCD.out) (fun hHeld => ?_)
      rw [← hwd] at hHeld ⊢
      clear hwd
      refine wpAnyH_take (i := 1) (v := ?_) rfl (by kernel_rfl) (by kernel_rfl) (by kernel_rfl) (fun _ _ _ h => h) (Or.inl ⟨by rfl, ?_⟩) (by assumption) ?_
      rotate_left
      · (intro w hSw; (try dsimp only at hSw); go_simp; try with_reducible rfl)
      refine wpAnyH_take (i := 3) (v := ?_) rfl (by kernel_rfl) (by kernel_rfl) (by kernel_rfl) (fun _ _ _ h => h) (Or.inl ⟨by rfl, ?_⟩) (by assumption) ?_
      rotate_left
      · (intro w hSw; (try dsimp only at hSw); go_simp; try with_reducible rfl)
      refine wpAnyH_take (i := 4) (v := ?_) rfl (by kernel_rfl) (by kernel_rfl) (by kernel_rfl) (fun _ _ _ h => h) (Or.inl ⟨by rfl, ?_⟩) (by assumption) ?_
      rotate_left
      · (intro w hSw; (try dsimp only at hSw); go_simp; try with_reducible rfl)
      refine wpAnyH_take (i := 5) (v := ?_) rfl (by kernel_rfl) (by kernel_rfl) (by kernel_rfl) (fun _ _ _ h => h) (Or.inl ⟨by rfl, ?_⟩) (by assumption) ?_
      rotate_left
      · (intro w hSw; (try dsimp only at hSw); go_simp; try with_reducible rfl)
      refine wpAnyH_take (i := 6) (v := ?_) rfl (by kernel_rfl) (by kernel_rfl) (by kernel_rfl) (fun _ _ _ h => h) (Or.inl ⟨by rfl, ?_⟩) (by assumption) ?_
      rotate_left
      · (intro w hSw; (try dsimp only at hSw); go_simp; try with_reducible rfl)
      refine wpAnyH_ready (rs := [0, 7]) (by kernel_rfl) (by simp) ?_
      refine AllReadyH.cons rfl (fun K hK => ?_) <| AllReadyH.cons rfl (fun K hK => ?_) <| AllReadyH.nil
      · skip
        go_simp
        refine hK.out _ _ (HCA.out wd (.cells #[] 9) HCD.out) (fun hHeld => ?_)
        clear hK K
        refine wpAnyH_ready (rs := [2, 7]) (by kernel_rfl) (by simp) ?_
        refine AllReadyH.cons rfl (fun K hK => ?_) <| AllReadyH.cons rfl (fun K hK => ?_) <| AllReadyH.nil
        · skip
          refine step_append_strs rfl (.tmp 73) (.tmp 74) rfl wd.heap.size (.slice (some ⟨wd.heap.size, 0, none⟩) 0 0) 0 L [] ps (by go_simp) rfl (Strs.empty wd _ (Nat.le_refl _)) gl 0 L (by go_simp) HPLL.out (HSd.out.below ((below_alloc wd (.cells #[] 9))) HGd.out) (by omega) (by simp) ?_
          intro A1 cap1 w2 hst1 hbl1 hfar1
          have HT1 := Lib.hid hst1
          have HB1 : Hid (Below wd.heap.size wd w2) := ((below_alloc wd (.cells #[] 9))).trans hbl1
          have HC1 : Hid (w2.cell? ⟨gl, k, none⟩ = some (.string pS)) := (HB1.out.cell (p := ⟨gl, k, none⟩) HGd.out).trans HCD.out
          clear hst1 hbl1 hfar1
          refine hK.out _ _ HC1.out (fun hHeld => ?_)
          clear hK K
          refine wpAnyH_ready (rs := [7]) (by kernel_rfl) (by simp) ?_
          refine AllReadyH.cons rfl (fun K hK => ?_) AllReadyH.nil
          go_simp
          refine hK.out _ _ (HCA.out w2 (.cells #[.string pS] 9) HC1.out) (fun hHeld => ?_)
          clear hK K
          refine wpAnyH_ready (rs := [8]) (by kernel_rfl) (by simp) ?_
          refine AllReadyH.cons rfl (fun K hK => ?_) AllReadyH.nil
          refine step_append_strs rfl (.tmp 75) (.tmp 80) rfl wd.heap.size (.slice A1 (0 + L) cap1) (0 + L) 1 ([] ++ ps) [p] (by go_simp) (by rw [List.nil_append, Nat.zero_add]; exact HPLL.out) (HT1.out.below (below_alloc w2 _) (Nat.le_refl _)) (w2.heap.size) 0 1 (by go_simp) rfl (HONE.out w2) (by omega) (by have := HB1.out.size; simp; omega) ?_
          intro A2 cap2 w4 hst2 hbl2 _
          rw [List.nil_append] at hst2
          have HT2 := Lib.hid hst2
          have HB2 : Hid (Below wd.heap.size wd w4) := (HB1.out.alloc HB1.out.size (.cells #[.string pS] 9)).trans hbl2
          have HC2 : Hid (w4.cell? ⟨gl, k, none⟩ = some (.string pS)) := (HB2.out.cell (p := ⟨gl, k, none⟩) HGd.out).trans HCD.out
          clear hst2 hbl2
          refine hK.out _ _ HC2.out (fun hHeld => ?_)
          clear hK K
          refine wpAnyH_take (i := 9) (v := ?_) rfl (by kernel_rfl) (by kernel_rfl) (by kernel_rfl) (fun _ _ _ h => h) (Or.inl ⟨by rfl, ?_⟩) (by assumption) ?_
          rotate_left
          · (intro w hSw; (try dsimp only at hSw); go_simp; try with_reducible rfl)
          refine wpAnyH_done (by kernel_rfl) ?_ _
          go_simp
          obtain ⟨g3, c3, e3, hc3, hs3⟩ := Strs.sat HT2.out (by simp)
          injection e3 with e3 e3b e3c
          rw [List.length_append, ← HPLL.out] at hc3
          subst e3 e3c
          clear e3b
          have HS3 := Lib.hid hs3
          have HV4 : Hid (Below V.heap.size V w4) := HBd.out.trans (HB2.out.mono HBd.out.size)
          clear hs3
          go_wp2_with fail
          go_meet
          exact ⟨g3, cap2, by simp, by simpa using hc3, HS3.out, HV4.out⟩
        · skip
          go_simp
          refine hK.out _ _ (HCA.out _ (.cells #[.string pS] 9) (HCA.out wd (.cells #[] 9) HCD.out)) (fun hHeld => ?_)
          clear hK K
          refine wpAnyH_ready (rs := [2]) (by kernel_rfl) (by simp) ?_
          refine AllReadyH.cons rfl (fun K hK => ?_) AllReadyH.nil
          refine step_append_strs rfl (.tmp 73) (.tmp 74) rfl wd.heap.size (.slice (some ⟨wd.heap.size, 0, none⟩) 0 0) 0 L [] ps (by go_simp) rfl (Strs.below (Strs.empty wd _ (Nat.le_refl _)) (below_alloc _ _) (Nat.le_refl _)) gl 0 L (by go_simp) HPLL.out (HSd.out.below ((below_alloc wd (.cells #[] 9)).alloc (by simp) (.cells #[.string pS] 9)) HGd.out) (by omega) (by simp; omega) ?_
          intro A1 cap1 w2 hst1 hbl1 hfar1
          have HT1 := Lib.hid hst1
          have HB1 : Hid (Below wd.heap.size wd w2) := ((below_alloc wd (.cells #[] 9)).alloc (by simp) (.cells #[.string pS] 9)).trans hbl1
          have HC1 : Hid (w2.cell? ⟨gl, k, none⟩ = some (.string pS)) := (HB1.out.cell (p := ⟨gl, k, none⟩) HGd.out).trans HCD.out
          have HO2 := Lib.hid (hfar1 (wd.heap.size + 1) 0 [p] (by simp [Value.ownBlock]) (by have := HONE.out (wd.alloc (.cells #[] 9)); rw [HSZ.out] at this; exact this))
          clear hst1 hbl1 hfar1
          refine hK.out _ _ HC1.out (fun hHeld => ?_)
          clear hK K
          refine wpAnyH_ready (rs := [8]) (by kernel_rfl) (by simp) ?_
          refine AllReadyH.cons rfl (fun K hK => ?_) AllReadyH.nil
          refine step_append_strs rfl (.tmp 75) (.tmp 80) rfl wd.heap.size (.slice A1 (0 + L) cap1) (0 + L) 1 ([] ++ ps) [p] (by go_simp) (by rw [List.nil_append, Nat.zero_add]; exact HPLL.out) HT1.out (wd.heap.size + 1) 0 1 (by go_simp) rfl HO2.out (by omega) HB1.out.size ?_
          intro A2 cap2 w4 hst2 hbl2 _
          rw [List.nil_append] at hst2
          have HT2 := Lib.hid hst2
          have HB2 : Hid (Below wd.heap.size wd w4) := (HB1.out).trans hbl2
          have HC2 : Hid (w4.cell? ⟨gl, k, none⟩ = some (.string pS)) := (HB2.out.cell (p := ⟨gl, k, none⟩) HGd.out).trans HCD.out
          clear hst2 hbl2
          refine hK.out _ _ HC2.out (fun hHeld => ?_)
          clear hK K
          refine wpAnyH_take (i := 9) (v := ?_) rfl (by kernel_rfl) (by kernel_rfl) (by kernel_rfl) (fun _ _ _ h => h) (Or.inl ⟨by rfl, ?_⟩) (by assumption) ?_
          rotate_left
          · (intro w hSw; (try dsimp only at hSw); go_simp; try with_reducible rfl)
          refine wpAnyH_done (by kernel_rfl) ?_ _
          go_simp
          obtain ⟨g3, c3, e3, hc3, hs3⟩ := Strs.sat HT2.out (by simp)
          injection e3 with e3 e3b e3c
          rw [List.length_append, ← HPLL.out] at hc3
          subst e3 e3c
          clear e3b
          have HS3 := Lib.hid hs3
          have HV4 : Hid (Below V.heap.size V w4) := HBd.out.trans (HB2.out.mono HBd.out.size)
          clear hs3
          go_wp2_with fail
          go_meet
          exact ⟨g3, cap2, by simp, by simpa using hc3, HS3.out, HV4.out⟩
      · skip
        go_simp
        refine hK.out _ _ (HCA.out wd (.cells #[.string pS] 9) HCD.out) (fun hHeld => ?_)
        clear hK K
        refine wpAnyH_ready (rs := [0]) (by kernel_rfl) (by simp) ?_
        refine AllReadyH.cons rfl (fun K hK => ?_) AllReadyH.nil
        go_simp
        refine hK.out _ _ (HCA.out _ (.cells #[] 9) (HCA.out wd (.cells #[.string pS] 9) HCD.out)) (fun hHeld => ?_)
        clear hK K
        refine wpAnyH_ready (rs := [2]) (by kernel_rfl) (by simp) ?_
        refine AllReadyH.cons rfl (fun K hK => ?_) AllReadyH.nil
        refine step_append_strs rfl (.tmp 73) (.tmp 74) rfl wd.heap.size (.slice (some ⟨wd.heap.size + 1, 0, none⟩) 0 0) 0 L [] ps (by go_simp) rfl (by have := Strs.empty (wd.alloc (.cells #[.string pS] 9)) wd.heap.size (by simp); rw [HSZ.out] at this; exact this) gl 0 L (by go_simp) HPLL.out (HSd.out.below ((below_alloc wd (.cells #[.string pS] 9)).alloc (by simp) (.cells #[] 9)) HGd.out) (by omega) (by simp; omega) ?_
        intro A1 cap1 w2 hst1 hbl1 hfar1
        have HT1 := Lib.hid hst1
        have HB1 : Hid (Below wd.heap.size wd w2) := ((below_alloc wd (.cells #[.string pS] 9)).alloc (by simp) (.cells #[] 9)).trans hbl1
        have HC1 : Hid (w2.cell? ⟨gl, k, none⟩ = some (.string pS)) := (HB1.out.cell (p := ⟨gl, k, none⟩) HGd.out).trans HCD.out
        have HO2 := Lib.hid (hfar1 wd.heap.size 0 [p] (by simp [Value.ownBlock]) ((HONE.out wd).below (below_alloc _ _) (by simp)))
        clear hst1 hbl1 hfar1
        refine hK.out _ _ HC1.out (fun hHeld => ?_)
        clear hK K
        refine wpAnyH_ready (rs := [8]) (by kernel_rfl) (by simp) ?_
        refine AllReadyH.cons rfl (fun K hK => ?_) AllReadyH.nil
        refine step_append_strs rfl (.tmp 75) (.tmp 80) rfl wd.heap.size (.slice A1 (0 + L) cap1) (0 + L) 1 ([] ++ ps) [p] (by go_simp) (by rw [List.nil_append, Nat.zero_add]; exact HPLL.out) HT1.out (wd.heap.size) 0 1 (by go_simp) rfl HO2.out (by omega) HB1.out.size ?_
        intro A2 cap2 w4 hst2 hbl2 _
        rw [List.nil_append] at hst2
        have HT2 := Lib.hid hst2
        have HB2 : Hid (Below wd.heap.size wd w4) := (HB1.out).trans hbl2
        have HC2 : Hid (w4.cell? ⟨gl, k, none⟩ = some (.string pS)) := (HB2.out.cell (p := ⟨gl, k, none⟩) HGd.out).trans HCD.out
        clear hst2 hbl2
        refine hK.out _ _ HC2.out (fun hHeld => ?_)
        clear hK K
        refine wpAnyH_take (i := 9) (v := ?_) rfl (by kernel_rfl) (by kernel_rfl) (by kernel_rfl) (fun _ _ _ h => h) (Or.inl ⟨by rfl, ?_⟩) (by assumption) ?_
        rotate_left
        · (intro w hSw; (try dsimp only at hSw); go_simp; try with_reducible rfl)
        refine wpAnyH_done (by kernel_rfl) ?_ _
        go_simp
        obtain ⟨g3, c3, e3, hc3, hs3⟩ := Strs.sat HT2.out (by simp)
        injection e3 with e3 e3b e3c
        rw [List.length_append, ← HPLL.out] at hc3
        subst e3 e3c
        clear e3b
        have HS3 := Lib.hid hs3
        have HV4 : Hid (Below V.heap.size V w4) := HBd.out.trans (HB2.out.mono HBd.out.size)
        clear hs3
        go_wp2_with fail
        go_meet
        exact ⟨g3, cap2, by simp, by simpa using hc3, HS3.out, HV4.out⟩
    case rest =>
      obtain ⟨g7, c7, rfl, hc7, hs7, hv7⟩ := hcut
      have HV7 := Lib.hid hv7
      have HS7 := Lib.hid hs7
      have HW7 : Hid (Below W.heap.size W wc) := HWV.out.trans (HV7.out.mono HWV.out.size)
      have K2 := Lib.hid (K21b.out wc g7 c7 HS7.out hc7)
      clear hv7 hs7 K21b
      go_wp2_with fail
      refine K2.out.mono ?_
      rintro e w8 ⟨rfl, hb8⟩
      have HV8 : Hid (Below V.heap.size V w8) := HV7.out.trans (hb8.mono HV7.out.size)
      have HW8 : Hid (Below W.heap.size W w8) := HWV.out.trans (HV8.out.mono HWV.out.size)
      clear hb8 K2 HS7 HV7 HW7
      go_wp2_with fail
      refine (K17b.out w8 HW8.out).mono ?_
      rintro e w9 ⟨E, ce, rfl, hb9⟩
      have HV9 : Hid (Below V.heap.size V w9) := HV8.out.trans (hb9.mono HV8.out.size)
      clear hb9 HV8 HW8
      obtain ⟨X, hX⟩ : ∃ X, X = w9.alloc (.cells #[.slice E 0 ce, .int .i64 0, .int .i64 0, .int .i64 0, .int .i64 0, .int .i64 0] 24) := ⟨_, rfl⟩
      have HVX : Hid (Below V.heap.size V X) := by show Below _ _ _; rw [hX]; exact HV9.out.alloc HV9.out.size _
      have t5 : (((L + 1 : Nat) : Int) != ((L + 1 : Nat) : Int)) = false := by simp
      obtain ⟨wd, hwd⟩ : ∃ wd, wd = X.drew := ⟨_, rfl⟩
      have HBd : Hid (Below V.heap.size V wd) := by show Below _ _ _; rw [hwd]; exact below_drew HVX.out
      have HSd := Lib.hid (HSV.out.below HBd.out HVL.out)
      have HGd : Hid (gl < wd.heap.size) := HSd.out.1
      have HTK : Hid (k = (ps.take k).length) := by show _ = _; rw [List.length_take, HPL.out]; omega
      obtain ⟨j, hj⟩ : ∃ j, L = k + 1 + j := ⟨L - (k + 1), by have := HL.out; omega⟩
      have HDJ : Hid (j = (ps.drop (k + 1)).length) := by show _ = _; rw [List.length_drop, HPL.out]; have := HL.out; omega
      have hNj : N + 3 = k + j := by have := HL.out; omega
      have k7 : (k : Int) + 1 ≤ (L : Int) := by omega
      have k8 : L - (k + 1) = j := by omega
      have k9 : (k : Int) ≤ (L : Int) := by omega
      have k10 : k ≤ 20 := by omega
      have k11 : j ≤ 20 := by omega
      have k15 : (0 : Int) ≤ (k : Int) + 1 := by omega
      have k13 : IntKind.i64.wrap ((k : Int) + 1) = (k : Int) + 1 := IntWalk.i64_in _ (by omega)
      by_cases hj0 : j = 0
      · subst hj0
        have HDK := HDJ
        rw [Nat.add_zero] at hj
        subst hj
        have k14 : (k : Int) ≤ (k : Int) + 1 := by omega
        go_wp2_with fail
        rw [← hX]
        refine wp_region_held_drew (S := (fun _ => True)) (by kernel_rfl) trivial (fun hHeld => ?_)
        rw [← hwd]
        clear hwd
        refine wpAnyH_take (i := 1) (v := ?_) rfl (by kernel_rfl) (by kernel_rfl) (by kernel_rfl) (fun _ _ _ h => h) (Or.inl ⟨by rfl, ?_⟩) (by assumption) ?_
        rotate_left
        · (intro w hSw; (try dsimp only at hSw); go_simp; try with_reducible rfl)
        refine wpAnyH_take (i := 2) (v := ?_) rfl (by kernel_rfl) (by kernel_rfl) (by kernel_rfl) (fun _ _ _ h => h) (Or.inl ⟨by rfl, ?_⟩) (by assumption) ?_
        rotate_left
        · (intro w hSw; (try dsimp only at hSw); go_simp; try with_reducible rfl)
        refine wpAnyH_take (i := 3) (v := ?_) rfl (by kernel_rfl) (by kernel_rfl) (by kernel_rfl) (fun _ _ _ h => h) (Or.inl ⟨by rfl, ?_⟩) (by assumption) ?_
        rotate_left
        · (intro w hSw; (try dsimp only at hSw); go_simp; try with_reducible rfl)
        refine wpAnyH_take (i := 5) (v := ?_) rfl (by kernel_rfl) (by kernel_rfl) (by kernel_rfl) (fun _ _ _ h => h) (Or.inl ⟨by rfl, ?_⟩) (by assumption) ?_
        rotate_left
        · (intro w hSw; (try dsimp only at hSw); go_simp; try with_reducible rfl)
        refine wpAnyH_take (i := 6) (v := ?_) rfl (by kernel_rfl) (by kernel_rfl) (by kernel_rfl) (fun _ _ _ h => h) (Or.inl ⟨by rfl, ?_⟩) (by assumption) ?_
        rotate_left
        · (intro w hSw; (try dsimp only at hSw); go_simp; try with_reducible rfl)
        refine wpAnyH_take (i := 7) (v := ?_) rfl (by kernel_rfl) (by kernel_rfl) (by kernel_rfl) (fun _ _ _ h => h) (Or.inl ⟨by rfl, ?_⟩) (by assumption) ?_
        rotate_left
        · (intro w hSw; (try dsimp only at hSw); go_simp; try with_reducible rfl)
        refine wpAnyH_take (i := 8) (v := ?_) rfl (by kernel_rfl) (by kernel_rfl) (by kernel_rfl) (fun _ _ _ h => h) (Or.inl ⟨by rfl, ?_⟩) (by assumption) ?_
        rotate_left
        · (intro w hSw; (try dsimp only at hSw); go_simp; try with_reducible rfl)
        refine wpAnyH_ready (rs := [0]) (by kernel_rfl) (by simp) ?_
        refine AllReadyH.cons rfl (fun K hK => ?_) AllReadyH.nil

        go_simp
        refine hK.out _ _ trivial (fun hHeld => ?_)
        clear hK K
        have HBa : Hid (Below wd.heap.size wd (wd.alloc (.cells #[] 9))) := below_alloc _ _
        refine wpAnyH_ready (rs := [4]) (by kernel_rfl) (by simp) ?_
        refine AllReadyH.cons rfl (fun K hK => ?_) AllReadyH.nil

        refine step_append_strs rfl (.tmp 103) (.tmp 106) rfl wd.heap.size (.slice (some ⟨wd.heap.size, 0, none⟩) 0 0) 0 k [] (ps.take k) (by go_simp) rfl (Strs.empty wd _ (Nat.le_refl _)) gl 0 (k + 1) (by go_simp) HTK.out ((HSd.out.below HBa.out HGd.out).take k) (by omega) (by simp) ?_
        intro A1 cap1 w10 hst1 hbl1 _
        have HT1 := Lib.hid hst1
        have HB1 : Hid (Below wd.heap.size wd w10) := HBa.out.trans hbl1
        clear hst1 hbl1
        refine hK.out _ _ trivial (fun hHeld => ?_)
        clear hK K
        refine wpAnyH_ready (rs := [9]) (by kernel_rfl) (by simp) ?_
        refine AllReadyH.cons rfl (fun K hK => ?_) AllReadyH.nil

        refine step_append_strs rfl (.tmp 107) (.tmp 111) rfl wd.heap.size (.slice A1 (0 + k) cap1) (0 + k) 0 ([] ++ ps.take k) (ps.drop (k + 1)) (by go_simp) (by rw [List.nil_append, Nat.zero_add]; exact HTK.out) HT1.out gl (0) 0 (by go_simp) HDK.out (by rw [List.eq_nil_of_length_eq_zero HDK.out.symm]; exact SAt.nil (Nat.lt_of_lt_of_le HGd.out HB1.out.size)) (by omega) HB1.out.size ?_
        intro A2 cap2 w11 hst2 hbl2 _
        rw [List.nil_append] at hst2
        have HT2 := Lib.hid hst2
        have HB2 : Hid (Below wd.heap.size wd w11) := HB1.out.trans hbl2
        clear hst2 hbl2 HT1
        refine hK.out _ _ trivial (fun hHeld => ?_)
        clear hK K
        refine wpAnyH_take (i := 10) (v := ?_) rfl (by kernel_rfl) (by kernel_rfl) (by kernel_rfl) (fun _ _ _ h => h) (Or.inl ⟨by rfl, ?_⟩) (by assumption) ?_
        rotate_left
        · (intro w hSw; (try dsimp only at hSw); go_simp; try with_reducible rfl)
        refine wpAnyH_done (by kernel_rfl) ?_ _
        go_simp
        obtain ⟨g3, c3, e3, hc3, hs3⟩ := Strs.sat HT2.out (by rw [List.length_append, ← HTK.out, ← HDK.out]; omega)
        injection e3 with e3 e3b e3c
        rw [List.length_append, ← HTK.out, ← HDK.out] at hc3
        subst e3 e3c
        clear e3b
        have HS3 := Lib.hid hs3
        have HV11 : Hid (Below V.heap.size V w11) := HBd.out.trans (HB2.out.mono HBd.out.size)
        have K3 := Lib.hid (K21c.out w11 g3 cap2 HS3.out (by omega))
        rw [show N + 3 = k by omega] at K3
        clear hs3 hHeld HBa HB1 HB2 HT2 HBd HSd HGd HTK HDK hc3
        go_wp2_with fail
        refine K3.out.mono ?_
        rintro e w12 ⟨rfl, hb12⟩
        have HV12 : Hid (Below V.heap.size V w12) := HV11.out.trans (hb12.mono HV11.out.size)
        have HW12 : Hid (Below W.heap.size W w12) := HWV.out.trans (HV12.out.mono HWV.out.size)
        clear hb12 K3 HS3 HV11
        go_wp2_with fail
        refine (K17c.out w12 HW12.out).mono ?_
        rintro e w13 ⟨E2, ce2, rfl, hb13⟩
        have HW13 : Hid (Below W.heap.size W w13) := HW12.out.trans (hb13.mono HW12.out.size)
        clear hb13 HV12 HW12
        have g1 : N ≤ k := by have := HL.out; omega
        obtain rfl := HY1.out (.inl g1)
        have g2 : (N : Int) ≤ (k : Int) := by omega
        go_wp2_with fail
        refine (KL.out w13 HW13.out).mono ?_
        rintro e w14 ⟨rfl, hb14⟩
        obtain ⟨r0, r1, _⟩ := (HA.out w14 hb14).cells
        go_wp2
        go_ret
        exact ⟨rfl, HGO.out _ hb14⟩
      · have HDK := HDJ
        have k12 : ¬ L = k + 1 := by omega
        clear hj
        go_wp2_with fail
        rw [← hX]
        refine wp_region_held_drew (S := (fun _ => True)) (by kernel_rfl) trivial (fun hHeld => ?_)
        rw [← hwd]
        clear hwd
        refine wpAnyH_take (i := 1) (v := ?_) rfl (by kernel_rfl) (by kernel_rfl) (by kernel_rfl) (fun _ _ _ h => h) (Or.inl ⟨by rfl, ?_⟩) (by assumption) ?_
        rotate_left
        · (intro w hSw; (try dsimp only at hSw); go_simp; try with_reducible rfl)
        refine wpAnyH_take (i := 2) (v := ?_) rfl (by kernel_rfl) (by kernel_rfl) (by kernel_rfl) (fun _ _ _ h => h) (Or.inl ⟨by rfl, ?_⟩) (by assumption) ?_
        rotate_left
        · (intro w hSw; (try dsimp only at hSw); go_simp; try with_reducible rfl)
        refine wpAnyH_take (i := 3) (v := ?_) rfl (by kernel_rfl) (by kernel_rfl) (by kernel_rfl) (fun _ _ _ h => h) (Or.inl ⟨by rfl, ?_⟩) (by assumption) ?_
        rotate_left
        · (intro w hSw; (try dsimp only at hSw); go_simp; try with_reducible rfl)
        refine wpAnyH_take (i := 5) (v := ?_) rfl (by kernel_rfl) (by kernel_rfl) (by kernel_rfl) (fun _ _ _ h => h) (Or.inl ⟨by rfl, ?_⟩) (by assumption) ?_
        rotate_left
        · (intro w hSw; (try dsimp only at hSw); go_simp; try with_reducible rfl)
        refine wpAnyH_take (i := 6) (v := ?_) rfl (by kernel_rfl) (by kernel_rfl) (by kernel_rfl) (fun _ _ _ h => h) (Or.inl ⟨by rfl, ?_⟩) (by assumption) ?_
        rotate_left
        · (intro w hSw; (try dsimp only at hSw); go_simp; try with_reducible rfl)
        refine wpAnyH_take (i := 7) (v := ?_) rfl (by kernel_rfl) (by kernel_rfl) (by kernel_rfl) (fun _ _ _ h => h) (Or.inl ⟨by rfl, ?_⟩) (by assumption) ?_
        rotate_left
        · (intro w hSw; (try dsimp only at hSw); go_simp; try with_reducible rfl)
        refine wpAnyH_take (i := 8) (v := ?_) rfl (by kernel_rfl) (by kernel_rfl) (by kernel_rfl) (fun _ _ _ h => h) (Or.inl ⟨by rfl, ?_⟩) (by assumption) ?_
        rotate_left
        · (intro w hSw; (try dsimp only at hSw); go_simp; try with_reducible rfl)
        refine wpAnyH_ready (rs := [0]) (by kernel_rfl) (by simp) ?_
        refine AllReadyH.cons rfl (fun K hK => ?_) AllReadyH.nil

        go_simp
        refine hK.out _ _ trivial (fun hHeld => ?_)
        clear hK K
        have HBa : Hid (Below wd.heap.size wd (wd.alloc (.cells #[] 9))) := below_alloc _ _
        refine wpAnyH_ready (rs := [4]) (by kernel_rfl) (by simp) ?_
        refine AllReadyH.cons rfl (fun K hK => ?_) AllReadyH.nil

        refine step_append_strs rfl (.tmp 103) (.tmp 106) rfl wd.heap.size (.slice (some ⟨wd.heap.size, 0, none⟩) 0 0) 0 k [] (ps.take k) (by go_simp) rfl (Strs.empty wd _ (Nat.le_refl _)) gl 0 L (by go_simp) HTK.out ((HSd.out.below HBa.out HGd.out).take k) (by omega) (by simp) ?_
        intro A1 cap1 w10 hst1 hbl1 _
        have HT1 := Lib.hid hst1
        have HB1 : Hid (Below wd.heap.size wd w10) := HBa.out.trans hbl1
        clear hst1 hbl1
        refine hK.out _ _ trivial (fun hHeld => ?_)
        clear hK K
        refine wpAnyH_ready (rs := [9]) (by kernel_rfl) (by simp) ?_
        refine AllReadyH.cons rfl (fun K hK => ?_) AllReadyH.nil

        refine step_append_strs rfl (.tmp 107) (.tmp 111) rfl wd.heap.size (.slice A1 (0 + k) cap1) (0 + k) j ([] ++ ps.take k) (ps.drop (k + 1)) (by go_simp) (by rw [List.nil_append, Nat.zero_add]; exact HTK.out) HT1.out gl (k + 1) j (by go_simp) HDK.out (by have := (HSd.out.below HB1.out HGd.out).drop (k + 1); rw [Nat.zero_add] at this; exact this) (by omega) HB1.out.size ?_
        intro A2 cap2 w11 hst2 hbl2 _
        rw [List.nil_append] at hst2
        have HT2 := Lib.hid hst2
        have HB2 : Hid (Below wd.heap.size wd w11) := HB1.out.trans hbl2
        clear hst2 hbl2 HT1
        refine hK.out _ _ trivial (fun hHeld => ?_)
        clear hK K
        refine wpAnyH_take (i := 10) (v := ?_) rfl (by kernel_rfl) (by kernel_rfl) (by kernel_rfl) (fun _ _ _ h => h) (Or.inl ⟨by rfl, ?_⟩) (by assumption) ?_
        rotate_left
        · (intro w hSw; (try dsimp only at hSw); go_simp; try with_reducible rfl)
        refine wpAnyH_done (by kernel_rfl) ?_ _
        go_simp
        obtain ⟨g3, c3, e3, hc3, hs3⟩ := Strs.sat HT2.out (by rw [List.length_append, ← HTK.out, ← HDK.out]; omega)
        injection e3 with e3 e3b e3c
        rw [List.length_append, ← HTK.out, ← HDK.out] at hc3
        subst e3 e3c
        clear e3b
        have HS3 := Lib.hid hs3
        have HV11 : Hid (Below V.heap.size V w11) := HBd.out.trans (HB2.out.mono HBd.out.size)
        have K3 := Lib.hid (K21c.out w11 g3 cap2 HS3.out (by omega))
        rw [show N + 3 = k + j by omega] at K3
        clear hs3 hHeld HBa HB1 HB2 HT2 HBd HSd HGd HTK HDK hc3
        go_wp2_with fail
        refine K3.out.mono ?_
        rintro e w12 ⟨rfl, hb12⟩
        have HV12 : Hid (Below V.heap.size V w12) := HV11.out.trans (hb12.mono HV11.out.size)
        have HW12 : Hid (Below W.heap.size W w12) := HWV.out.trans (HV12.out.mono HWV.out.size)
        clear hb12 K3 HS3 HV11
        go_wp2_with fail
        refine (K17c.out w12 HW12.out).mono ?_
        rintro e w13 ⟨E2, ce2, rfl, hb13⟩
        have HW13 : Hid (Below W.heap.size W w13) := HW12.out.trans (hb13.mono HW12.out.size)
        clear hb13 HV12 HW12
        by_cases g1 : N ≤ k
        · obtain rfl := HY1.out (.inl g1)
          have g2 : (N : Int) ≤ (k : Int) := by omega
          go_wp2_with fail
          refine (KL.out w13 HW13.out).mono ?_
          rintro e w14 ⟨rfl, hb14⟩
          obtain ⟨r0, r1, _⟩ := (HA.out w14 hb14).cells
          go_wp2
          go_ret
          exact ⟨rfl, HGO.out _ hb14⟩
        · have g2 : ¬ (N : Int) ≤ (k : Int) := by omega
          by_cases g3 : N = 1
          · obtain rfl := HY1.out (.inr g3)
            have g4 : ((N : Int) == 1) = true := by simp; omega
            go_wp2_with fail
            refine (KL.out w13 HW13.out).mono ?_
            rintro e w14 ⟨rfl, hb14⟩
            obtain ⟨r0, r1, _⟩ := (HA.out w14 hb14).cells
            go_wp2
            go_ret
            exact ⟨rfl, HGO.out _ hb14⟩
          · have hy := HY2.out (by omega)
            have g4 : ((N : Int) == 1) = false := by simp; omega
            by_cases g5 : a.q < (N : Int)
            · rw [if_pos g5] at hy
              subst hy
              go_wp2_with fail
              refine (KL.out w13 HW13.out).mono ?_
              rintro e w14 ⟨rfl, hb14⟩
              obtain ⟨r0, r1, _⟩ := (HA.out w14 hb14).cells
              go_wp2
              go_ret
              exact ⟨rfl, HGO.out _ hb14⟩
            · rw [if_neg g5] at hy
              subst hy
              have g6 : decide (a.q < (N : Int)) = false := decide_eq_false g5
              go_wp2_with fail
              refine (KL.out w13 HW13.out).mono ?_
              rintro e w14 ⟨rfl, hb14⟩
              obtain ⟨r0, r1, _⟩ := (HA.out w14 hb14).cells
              go_wp2
              go_ret
              exact ⟨rfl, HGO.out _ hb14⟩
end Go.Proofs.YtlbabhddjdhalaaDoor
