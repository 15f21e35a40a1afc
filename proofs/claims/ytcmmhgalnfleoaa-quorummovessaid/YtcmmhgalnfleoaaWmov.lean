/- QuorumMoves' walk. -/
import Derived.Test.YtcmmhgalnfleoaaMk
import Derived.Deep.RegionHeld3
namespace Go.Proofs.Ytcmmhgalnfleoaa
open Go.RowKit

/-- A sample's numbers, cut to where nothing stops. -/
def cutS (p : Sm) : Sm := ⟨p.o.tmod 1152921504606846976, p.d, p.t.tmod 1000, p.s.tmod 1152921504606846976⟩
def keep (L : List Sm) : List Sm := last8 (L.map cutS)
structure Small (p : Sm) : Prop where
  inn : p.In
  o1 : -1152921504606846976 < p.o
  o2 : p.o < 1152921504606846976
  s1 : -1152921504606846976 < p.s
  s2 : p.s < 1152921504606846976
theorem cutS_in {p : Sm} (h : p.In) : Small (cutS p) := by
  have h1 := Int.lt_tmod_of_pos p.o (b := 1152921504606846976) (by decide)
  have h2 := Int.tmod_lt_of_pos p.o (b := 1152921504606846976) (by decide)
  have h3 := Int.lt_tmod_of_pos p.s (b := 1152921504606846976) (by decide)
  have h4 := Int.tmod_lt_of_pos p.s (b := 1152921504606846976) (by decide)
  have h5 := Int.lt_tmod_of_pos p.t (b := 1000) (by decide)
  have h6 := Int.tmod_lt_of_pos p.t (b := 1000) (by decide)
  refine ⟨⟨?_, ?_, h.d1, h.d2, ?_, ?_, ?_, ?_⟩, h1, h2, h3, h4⟩
  all_goals (simp only [cutS]; omega)
theorem keep_snoc {L : List Sm} {j : Nat} {p : Sm} (hp : L[j]? = some p) : push8 (last8 ((L.map cutS).take j)) (cutS p) = last8 ((L.map cutS).take (j + 1)) := last8_snoc (by rw [List.getElem?_map, hp]; rfl)
theorem now_shift {p : Sm} (h : Small p) {y : Int} (h1 : -2147483648 ≤ y) (h2 : y ≤ 2147483647) : nowOf p.o p.s y = nowOf p.o p.s 0 - y ∧ -2305843009213693952 ≤ nowOf p.o p.s 0 ∧ nowOf p.o p.s 0 ≤ 2305843009213693952 := by
  obtain ⟨_, o1, o2, s1, s2⟩ := h
  have e1 : stp (y - p.s) = y - p.s := by unfold stp; repeat (first | omega | split)
  have e2 : stp (0 - p.s) = 0 - p.s := by unfold stp; repeat (first | omega | split)
  have e3 : stp (p.o - (y - p.s)) = p.o - (y - p.s) := by unfold stp; repeat (first | omega | split)
  have e4 : stp (p.o - (0 - p.s)) = p.o - (0 - p.s) := by unfold stp; repeat (first | omega | split)
  unfold nowOf
  rw [e1, e2, e3, e4]
  omega
def sub (y : Int) (v : Vt) : Vt := ⟨v.s, v.p, v.o - y⟩
theorem vts_shift (h : Int) {y : Int} (h1 : -2147483648 ≤ y) (h2 : y ≤ 2147483647) : ∀ (Ls : List (List Sm)) (i : Nat), (∀ L ∈ Ls, ∀ p ∈ L, Small p) → vts h 100 y i Ls = (vts h 100 0 i Ls).map (sub y)
  | [], _, _ => rfl
  | L :: Ls, i, hs => by
    rw [vts, vts, List.map_append, vts_shift h h1 h2 Ls (i + 1) (fun M hM => hs M (List.mem_cons_of_mem _ hM))]
    congr 1
    cases hb : bestOf h 100 L with
    | none => rfl
    | some p =>
      have := (now_shift (hs L (List.mem_cons_self ..) p (best_some hb).1) h1 h2).1
      simp only [List.map_cons, List.map_nil, sub, this]
theorem vts_bd (h : Int) : ∀ (Ls : List (List Sm)) (i : Nat), (∀ L ∈ Ls, ∀ p ∈ L, Small p) → ∀ v ∈ vts h 100 0 i Ls, -2305843009213693952 ≤ v.o ∧ v.o ≤ 2305843009213693952
  | [], _, _ => fun v hv => by cases hv
  | L :: Ls, i, hs => fun v hv => by
    rw [vts, List.mem_append] at hv
    rcases hv with hv | hv
    · cases hb : bestOf h 100 L with
      | none => rw [hb] at hv; cases hv
      | some p =>
        rw [hb] at hv
        simp only [List.mem_singleton] at hv
        subst hv
        exact (now_shift (y := 0) (hs L (List.mem_cons_self ..) p (best_some hb).1) (by decide) (by decide)).2
    · exact vts_bd h Ls (i + 1) (fun M hM => hs M (List.mem_cons_of_mem _ hM)) v hv
/-- What is chosen by one vote at least: moved by so much. -/
theorem cho_moved {V : List Vt} {y : Int} (hb : ∀ v ∈ V, -2305843009213693952 ≤ v.o ∧ v.o ≤ 2305843009213693952) :
    (V.length = 0 ∧ choE 1 V.length = 13) ∨ (0 < V.length ∧ choE 1 V.length = 0 ∧ cho 1 ((V.map (sub y)).map Vt.o) = cho 1 (V.map Vt.o) - y ∧ -2305843009213693952 ≤ cho 1 (V.map Vt.o) ∧ cho 1 (V.map Vt.o) ≤ 2305843009213693952) := by
  rcases Nat.eq_zero_or_pos V.length with h | h
  · refine .inl ⟨h, ?_⟩
    rw [h]; decide
  · right
    have e : (V.map (sub y)).map Vt.o = (V.map Vt.o).map (· + (-y)) := by
      rw [List.map_map, List.map_map]
      rfl
    have e1 := (cho_ok (q := 1) (l := V.map Vt.o) (by decide) (by rw [List.length_map]; omega)).1
    have e2 := (cho_ok (q := 1) (l := (V.map Vt.o).map (· + (-y))) (by decide) (by rw [List.length_map, List.length_map]; omega)).1
    refine ⟨h, ?_, ?_, ?_⟩
    · unfold choE; rw [if_neg (by decide), if_neg (by omega)]
    · rw [e, e2, e1, mid_shift _ _ (by rw [List.length_map]; omega)]; omega
    · rw [e1]
      have := mid_mem (V.map Vt.o) (by rw [List.length_map]; omega)
      rw [List.mem_map] at this
      obtain ⟨v, hv, h1⟩ := this
      rw [← h1]
      exact hb v hv

set_option maxRecDepth 100000 in
set_option maxHeartbeats 8000000 in
theorem walk_moves (A0 : Option Addr) (n0 c0 : Nat) (h y : Int) (w : World) (hz : ActsIn w A0 n0 c0) (h1 : 0 ≤ h) (h2 : h ≤ 255) (y1 : -2147483648 ≤ y) (y2 : y ≤ 2147483647) :
    Calls Try.prog 8 #[.slice A0 n0 c0, .int .u8 h, .int .i32 y] w fun e w' => e = .returned (.bool true) ∧ Below w.heap.size w w' := by
  obtain ⟨l1, l2, Ls, hl, hsl⟩ := hz
  obtain ⟨i0, hi0, hz0, hz1, hz2⟩ := info_parts info_p
  have m1 : c0 ≤ 9223372036854775807 := by unfold maxLen at l2; omega
  have X := Lib.hid (And.intro hl hsl)
  clear hl hsl l2
  go_enter Try.func8, Try.ntmps8
  by_cases q0 : n0 = 0
  · subst q0
    go_wp2_with fail
    refine (alive_any w).mono ?_
    rintro e w1 ⟨rfl, hb1⟩
    have H1 := Lib.hid hb1
    clear hb1
    go_wp2_with fail
    refine (alive_any _).mono ?_
    rintro e w2 ⟨rfl, hb2⟩
    have H2 := Lib.hid (bel_trans H1.out hb2)
    clear hb2 H1
    go_wp2
    go_ret
    exact ⟨rfl, H2.out⟩
  have q2 : ((n0 : Int) == 0) = false := by simp; omega
  by_cases q1 : 16 < n0
  · clear q0
    go_wp2_with fail
    refine (alive_any w).mono ?_
    rintro e w1 ⟨rfl, hb1⟩
    have H1 := Lib.hid hb1
    clear hb1
    go_wp2_with fail
    refine (alive_any _).mono ?_
    rintro e w2 ⟨rfl, hb2⟩
    have H2 := Lib.hid (bel_trans H1.out hb2)
    clear hb2 H1
    go_wp2
    go_ret
    exact ⟨rfl, H2.out⟩
  have q3 : n0 ≤ 16 := by omega
  go_wp2_with fail
  refine (alive_any w).mono ?_
  rintro e w1 ⟨rfl, hb1⟩
  have H1 := Lib.hid hb1
  clear hb1
  go_wp2
  clear q2 q0
  go_loopw [7, 35] (fun v7 v35 wr => ∃ (k : Nat) (Ps : List (Option Addr)), k ≤ n0 ∧ v35 = .int .i64 (k : Int) ∧ Hid (Made wr w.heap.size v7 Ps ((Ls.map keep).take k) ∧ Below w.heap.size w wr)) (fun _ s _ => n0 - (intOf s).toNat)
  case atStart => exact ⟨0, [], by omega, rfl, Lib.hid ⟨Made.nil _ _, H1.out⟩⟩
  case round =>
    clear H1
    obtain ⟨k, Ps, hk, rfl, R⟩ := hrel
    by_cases hlt : k < n0
    · obtain ⟨L, hx⟩ : ∃ L, Ls[k]? = some L := ⟨Ls[k]'(by have := X.out.1; omega), List.getElem?_eq_getElem _⟩
      obtain ⟨g, o, B, cB, rfl, hg, c0, hlc, hcm, hsms, hin⟩ := (X.out.2.later R.out.2) k L hx
      have hx8 : (Ls.map keep)[k]? = some (keep L) := by rw [List.getElem?_map, hx]; rfl
      have hlen : ((Ls.map keep).take k).length = k := by rw [List.length_take_of_le]; simp; have := X.out.1; omega
      have m2 : cB ≤ 9223372036854775807 := by unfold maxLen at hcm; omega
      obtain ⟨m, hm⟩ : ∃ m, m = L.length := ⟨_, rfl⟩
      rw [← hm] at c0 hlc
      have HL := Lib.hid (And.intro hm (And.intro hsms (And.intro hx8 hlen)))
      obtain ⟨wo, rfl⟩ : ∃ wo, wo = wr := ⟨_, rfl⟩
      obtain ⟨A7, c7, rfl, _, _⟩ := own_len R.out.1.row
      rw [hlen] at R ⊢
      clear hg hcm hsms hx8 hlen hm hx
      by_cases q2 : 20 < m
      · go_wp2
        go_ret
        exact ⟨rfl, R.out.2⟩
      · go_wp2_with fail
        refine (snew_any _).mono ?_
        rintro e w3 ⟨rfl, hs3, hb3, _⟩
        obtain ⟨sb, hsb⟩ : ∃ sb, sb = wo.heap.size + 1 := ⟨_, rfl⟩
        rw [← hsb] at hs3 ⊢
        have H3 := Lib.hid (And.intro hs3 hb3)
        clear hs3 hb3 hsb
        go_wp2
        go_loopw [45] (fun v45 wi => ∃ j : Nat, j ≤ m ∧ v45 = .int .i64 (j : Int) ∧ Hid (St wi wo.heap.size sb j (last8 ((L.map cutS).take j)) ∧ Below wo.heap.size wo wi)) (fun s _ => m - (intOf s).toNat)
        case atStart => exact ⟨0, by omega, rfl, Lib.hid ⟨H3.out.1, H3.out.2⟩⟩
        case round =>
          clear H3
          obtain ⟨j, hj, rfl, Q⟩ := hrel
          by_cases hjm : j < m
          · obtain ⟨p, hp⟩ : ∃ p, L[j]? = some p := ⟨L[j]'(by have := HL.out.1; omega), List.getElem?_eq_getElem _⟩
            obtain ⟨gB, oB, rfl, _⟩ := HL.out.2.1 j p hp
            obtain ⟨d0, d1, d2, d3⟩ := (HL.out.2.1.later Q.out.2).at4 hp
            have HP := Lib.hid (keep_snoc hp)
            obtain ⟨W, hW⟩ : ∃ W, W = wr.alloc (.cells p.arr 31) := ⟨_, rfl⟩
            have S0 := Lib.hid (And.intro (Q.out.1.below (show Below wr.heap.size wr W by rw [hW]; exact bel_alloc _ _)) (show Below wo.heap.size wo W by rw [hW]; exact Q.out.2.alloc Q.out.2.size _))
            clear hp Q
            go_wp2_with fail
            rw [← hW]
            clear hW d0 d1 d2 d3
            refine (sadd_any _ _ _ _ S0.out.1 (by omega)).mono ?_
            rintro e w5 ⟨rfl, hs5, hb5⟩
            rw [show (⟨p.o.tmod 1152921504606846976, p.d, p.t.tmod 1000, p.s.tmod 1152921504606846976⟩ : Sm) = cutS p from rfl, HP.out] at hs5
            have Q2 := Lib.hid (And.intro hs5 (S0.out.2.trans hb5))
            clear hs5 hb5 S0
            go_wp2
            exact ⟨⟨j + 1, by omega, by go_num, Lib.hid ⟨Q2.out.1, Q2.out.2⟩⟩, by simp [intOf]; omega⟩
          · obtain rfl : j = m := by omega
            have e : (L.map cutS).take j = L.map cutS := List.take_of_length_le (by have := HL.out.1; simp; omega)
            have Q1 := Q.out.1
            rw [e] at Q1
            have M := Lib.hid (And.intro (by have := (R.out.1.below Q.out.2).row; rwa [HL.out.2.2.2] at this) (And.intro (R.out.1.below Q.out.2) (And.intro (show Src wr (some ⟨sb, 0, none⟩) (keep L) from .inr ⟨_, _, _, rfl, Q1⟩) (bel_trans R.out.2 Q.out.2))))
            clear Q1 e Q
            go_wp2_with (at_builtin; go_loud (refine wpList_append_lies _ rfl (.tmp 64) (.tmp 66) 39 rfl w.heap.size 41 i0 (.pointer none) 1 8 Try.underlying39 hi0 hz0 hz1 hz2 rfl (by decide) (.slice A7 k c7) k _ rfl (own_below M.out.1 (bel_alloc _ _) (Nat.le_refl _)) ⟨wr.heap.size, 0, none⟩ 1 1 [.pointer (some ⟨sb, 0, none⟩)] rfl rfl (World.news_of_block (cs := [Value.pointer (some ⟨sb, 0, none⟩)].toArray) (heap_alloc_new _ _)) (by simp [Value.oneCell']) (by decide) (by unfold maxLen; omega) (by omega) (by have := M.out.2.2.2.size; simp; omega) _ rfl ?_); intro p1 cp1 w9 ho1 hg1 hat1 _; have H9 := Lib.hid (And.intro ho1 (And.intro hg1 (bel_grown6 (M.out.2.2.2.alloc M.out.2.2.2.size _) (own_below M.out.1 (bel_alloc _ _) (Nat.le_refl _)) (Nat.le_refl _) hg1))); clear ho1 hg1 hat1)
            refine ⟨⟨k + 1, Ps ++ [(some ⟨sb, 0, none⟩)], by omega, by go_num, Lib.hid ⟨?_, H9.out.2.2⟩⟩, by simp [intOf]; omega⟩
            rw [take_snoc HL.out.2.2.1]
            exact (M.out.2.1.below (bel_alloc _ _)).snoc (M.out.2.2.1.below (bel_alloc _ _)) (by rw [HL.out.2.2.2]; exact H9.out.1) H9.out.2.1
    · obtain rfl : k = n0 := by omega
      have e : (Ls.map keep).take k = Ls.map keep := List.take_of_length_le (by have := X.out.1; simp; omega)
      have hsm : ∀ L ∈ Ls.map keep, ∀ p ∈ L, Small p := fun L hL p hp => by
        obtain ⟨L0, h0, rfl⟩ := List.mem_map.1 hL
        obtain ⟨j, hj⟩ := List.getElem?_of_mem h0
        obtain ⟨_, _, _, _, _, _, _, _, _, _, hi⟩ := X.out.2 j L0 hj
        obtain ⟨p0, hp0, rfl⟩ := List.mem_map.1 (mem_last8 hp)
        exact cutS_in (hi p0 hp0)
      have hlen : (Ls.map keep).length = k := by rw [List.length_map, X.out.1]
      obtain ⟨M1, R2⟩ := R.out
      rw [e] at M1
      obtain ⟨A7, c7, rfl, _, _⟩ := own_len M1.row
      rw [hlen] at M1 ⊢
      have hst := M1.sts hlen (fun L hL p hp => (hsm L hL p hp).inn)
      have SE := fun (W : World) (hs : Sts W A7 (Ls.map keep)) => select_any (c := c7) 1 h 100 0 (Ls.map keep) (by decide) (by rw [hlen]; omega) hs (by omega) (by omega) (by decide) (by decide)
      have SF := fun (W : World) (hs : Sts W A7 (Ls.map keep)) => select_any (c := c7) 1 h 100 y (Ls.map keep) (by decide) (by rw [hlen]; omega) hs (by omega) (by omega) (by omega) (by omega)
      have CM := cho_moved (y := y) (vts_bd h (Ls.map keep) 0 hsm)
      rw [vts_shift h y1 y2 _ _ hsm] at SF
      rw [hlen] at SE SF
      have hml : (vts h 100 0 0 (Ls.map keep)).length ≤ 1000 := Nat.le_trans (vts_len _ _ _ _ _) (by rw [hlen]; omega)
      generalize vts h 100 0 0 (Ls.map keep) = V at SE SF CM hml
      rw [List.length_map] at SF
      obtain ⟨m, hm⟩ : ∃ m, m = V.length := ⟨_, rfl⟩
      rw [← hm] at SE SF CM hml
      generalize cho 1 (V.map Vt.o) = a at SE CM
      generalize cho 1 ((V.map (sub y)).map Vt.o) = b at SF CM
      generalize choE 1 m = f at SE SF CM
      have HV := Lib.hid (And.intro SE (And.intro SF (And.intro hm CM)))
      have H1 := Lib.hid (And.intro hst R2)
      clear SE SF hm CM M1 R2 R e hsm hlen hst
      go_wp2_with fail
      refine (HV.out.1 _ H1.out.1).mono ?_
      rintro e w2 ⟨B2, d2, rfl, hv2, hb2⟩
      have H2 := Lib.hid (And.intro hv2 (And.intro (H1.out.1.later hb2) (bel_trans H1.out.2 hb2)))
      clear hv2 hb2 H1
      go_wp2_with fail
      refine (HV.out.2.1 _ H2.out.2.1).mono ?_
      rintro e w3 ⟨B3, d3, rfl, hv3, hb3⟩
      have H3 := Lib.hid (And.intro (H2.out.1.later hb3) (And.intro hv3 (bel_trans H2.out.2.2 hb3)))
      clear hv3 hb3 H2
      go_wp2
      go_loopw [99] (fun v99 wi => ∃ j : Nat, j ≤ m ∧ v99 = .int .i64 (j : Int) ∧ Hid (Below w3.heap.size w3 wi)) (fun s _ => m - (intOf s).toNat)
      case atStart => exact ⟨0, by omega, rfl, Lib.hid (Below.refl _ _)⟩
      case round =>
        obtain ⟨j, hj, rfl, Q⟩ := hrel
        by_cases hjm : j < m
        · obtain ⟨u, hu⟩ : ∃ u, V[j]? = some u := ⟨V[j]'(by have := HV.out.2.2.1; omega), List.getElem?_eq_getElem _⟩
          obtain ⟨g2, o2, rfl, _, r0, r1, r2, r3, r4, r5⟩ := (H3.out.1.later Q.out).at6 hu
          obtain ⟨g3, o3, rfl, _, s0, s1, s2, s3, s4, s5⟩ := (H3.out.2.1.later Q.out).at6 (p := sub y u) (by rw [List.getElem?_map, hu]; rfl)
          simp only [sub] at s0 s1 s2 s3 s4 s5
          clear hu r5 s5
          go_wp2_with fail
          go_region
          clear r0 r1 r2 r3 r4 s0 s1 s2 s3 s4
          go_wp2
          exact ⟨⟨j + 1, by omega, by go_num, Lib.hid (below_drew Q.out)⟩, by simp [intOf]; omega⟩
        · obtain rfl : j = m := by omega
          have H4 := Lib.hid (bel_trans H3.out.2.2 Q.out)
          rcases HV.out.2.2.2 with ⟨t1, rfl⟩ | ⟨t1, rfl, t2, t3, t4⟩
          · subst t1
            go_wp2
            go_ret
            exact ⟨by simp, H4.out⟩
          · go_wp2
            go_ret
            exact ⟨by simp, H4.out⟩
end Go.Proofs.Ytcmmhgalnfleoaa
