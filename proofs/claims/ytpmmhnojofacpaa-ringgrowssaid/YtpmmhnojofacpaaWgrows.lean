/- RingGrows' walk. -/
import Derived.Test.YtpmmhnojofacpaaWends
import Derived.BigQuiet
namespace Go.Proofs.Ytpmmhnojofacpaa
open Go.RowKit

theorem Rg.rebase {rT eT sz : Nat} {w : World} {base base' b m c n : Nat} {v : Value} {xs : List Value} (h : Rg rT eT sz w base b m c n v xs) (hb : base' ≤ base) : Rg rT eT sz w base' b m c n v xs :=
  ⟨h.blk, own_base h.row hb, h.one, Nat.le_trans hb h.own, h.le, h.ne⟩
theorem Rg.row_ne {rT eT sz : Nat} {w : World} {base base' b b' m m' c c' n n' : Nat} {v v' : Value} {xs xs' : List Value} (h : Rg rT eT sz w base b m c n v xs) (g : Rg rT eT sz w base' b' m' c' n' v' xs') : v.ownBlock ≠ some b' := fun e => by
  obtain ⟨_, _, cur, hg⟩ := own_lt h.row e
  rw [g.blk] at hg
  injection hg with hg
  injection hg with _ ht _
  exact h.ne ht
theorem below_drewN {B : Nat} {a w : World} (h : Below B a w) (n : Nat) : Below B a (w.drewN n) := h.trans ⟨rfl, rfl, rfl, Nat.le_refl _, fun _ _ => rfl⟩
/-- Two rings that hold the ends of one list. -/
structure Grow (w : World) (b1 b2 p q : Nat) (l l' : List Int) (wi : World) (v1 v2 : Value) : Prop where
  r : Ends w b1 p l wi v1
  s : Ends w b2 q l' wi v2
  nb : b1 ≠ b2
  nv : ∀ k, v1.ownBlock = some k → v2.ownBlock ≠ some k
theorem Grow.below {w wi wj : World} {b1 b2 p q : Nat} {l l' : List Int} {v1 v2 : Value} (s : Grow w b1 b2 p q l l' wi v1 v2) (h : Below wi.heap.size wi wj) : Grow w b1 b2 p q l l' wj v1 v2 := ⟨s.r.below h, s.s.below h, s.nb, s.nv⟩
theorem Grow.swap {w wi : World} {b1 b2 p q : Nat} {l l' : List Int} {v1 v2 : Value} (s : Grow w b1 b2 p q l l' wi v1 v2) : Grow w b2 b1 q p l' l wi v2 v1 := ⟨s.s, s.r, s.nb.symm, fun k h1 h2 => s.nv k h2 h1⟩
theorem Grow.add {w wi wj : World} {b1 b2 p q : Nat} {l l' : List Int} {v1 v2 v' : Value} {z : Int} (h1 : 1 ≤ p) (s : Grow w b1 b2 p q l l' wi v1 v2) (a : Added_u16 wi wj w.heap.size b1 p l.length (min l.length p) v1 (u16s (endOf p l)) [.int .u16 z] v') : Grow w b1 b2 p q (l ++ [z]) l' wj v' v2 := by
  have e := s.r.add h1 a
  refine ⟨e, ⟨s.s.ring.two a.two s.nb.symm (s.r.ring.row_ne s.s.ring) (s.s.ring.row_ne s.r.ring) (fun k hk e => s.nv k e hk), e.bel⟩, s.nb, fun k hk hv => ?_⟩
  rcases a.at' k hk with h | h
  · exact s.nv k h hv
  · have := (own_lt s.s.ring.row hv).2.1
    omega

set_option maxRecDepth 100000 in
set_option maxHeartbeats 8000000 in
theorem walk_grows (n0 n1 : Int) (A : Option Addr) (len cap : Nat) (w : World) (hz : IntsIn .u16 w A len cap) :
    Calls Try.prog 6 #[.agg #[.int .i64 n0, .int .i64 n1], .slice A len cap] w fun e w' => e = .returned (.bool true) ∧ Below w.heap.size w w' := by
  have K0 := Lib.hid (fun w => most_any n0 w)
  have K1 := Lib.hid (fun w => most_any n1 w)
  obtain ⟨x1, x2⟩ := mostOf_in n0
  obtain ⟨y1, y2⟩ := mostOf_in n1
  generalize mostOf n0 = x at *
  generalize mostOf n1 = y at *
  have c0 := fun (W : World) (k : Nat) => Calls.quiet_of_same (w := W) (n := k) ((K0.out _).mono fun _ _ h => ⟨h.1, h.2.symm⟩)
  have c1 := fun (W : World) (k : Nat) => Calls.quiet_of_same (w := W) (n := k) ((K1.out _).mono fun _ _ h => ⟨h.1, h.2.symm⟩)
  obtain ⟨p, hp⟩ : ∃ p, min x y = p := ⟨_, rfl⟩
  obtain ⟨q, hq⟩ : ∃ q, max x y = q := ⟨_, rfl⟩
  have p1 : 1 ≤ p := by omega
  have q2 : q ≤ 64 := by omega
  have pq : p ≤ q := by omega
  have hmin : (if y < x then (y : Int) else (x : Int)) = (p : Int) := by split <;> omega
  have hmax : (if x < y then (y : Int) else (x : Int)) = (q : Int) := by split <;> omega
  clear hp hq
  have l1 := hz.1
  have l2 : cap ≤ 9223372036854775807 := by have := hz.2.1; unfold maxLen at this; omega
  obtain ⟨zs, hl, hcells⟩ := hz.list
  have Z := Lib.hid (And.intro hl hcells)
  clear hz hl hcells
  go_enter Try.func6, Try.ntmps6
  go_wp2_with fail
  go_quiet (first | with_reducible exact c0 _ _ | with_reducible exact c1 _ _)
  obtain ⟨W, hW⟩ : ∃ W, W = (w.alloc (.cells #[.int .i64 n0, .int .i64 n1] 61)).drewN nq := ⟨_, rfl⟩
  rw [← hW]
  have hbW : Below w.heap.size w W := by rw [hW]; exact below_drewN ((Below.refl _ _).alloc (Nat.le_refl _) _) _
  have LW := Lib.hid hbW
  clear hW hbW hmin hmax c0 c1 K0 K1
  go_wp2_with fail
  refine (new_u16 p _ p1 (by omega)).mono ?_
  rintro e w1 ⟨rfl, hr1, hb1⟩
  obtain ⟨b1, hb⟩ : ∃ b, b = W.heap.size := ⟨_, rfl⟩
  rw [← hb]
  have S1 : Ends w b1 p [] w1 (.slice none 0 0) := by
    refine ⟨?_, bel_trans LW.out hb1⟩
    rw [← hb] at hr1
    have := hr1.rebase (base' := w.heap.size) (by have := LW.out.size; omega)
    simpa [endOf_nil, u16s] using this
  have L1 := Lib.hid S1
  clear hr1 hb1 S1 hb LW
  go_wp2_with fail
  refine (new_u16 q _ (by omega) q2).mono ?_
  rintro e w2 ⟨rfl, hr2, hb2⟩
  obtain ⟨b2, hb⟩ : ∃ b, b = w1.heap.size := ⟨_, rfl⟩
  rw [← hb]
  have S2 : Grow w b1 b2 p q [] [] w2 (.slice none 0 0) (.slice none 0 0) := by
    refine ⟨L1.out.below hb2, ⟨?_, bel_trans L1.out.bel hb2⟩, by have := L1.out.ring.lt; omega, fun k hk => by simp [Value.ownBlock] at hk⟩
    rw [← hb] at hr2
    have := hr2.rebase (base' := w.heap.size) (by have := L1.out.bel.size; omega)
    simpa [endOf_nil, u16s] using this
  have L2 := Lib.hid S2
  clear hr2 hb2 S2 hb L1
  go_wp2_with fail
  refine (alive_any _).mono ?_
  rintro e w3 ⟨rfl, hb3⟩
  have L3 := Lib.hid (L2.out.below hb3)
  clear hb3 L2
  by_cases t1 : 300 < len
  · go_wp2_with fail
    refine (alive_any _).mono ?_
    rintro e w4 ⟨rfl, hb4⟩
    have L4 := Lib.hid (L3.out.below hb4)
    clear hb4 L3
    go_wp2
    go_ret
    exact ⟨rfl, L4.out.r.bel⟩
  go_wp2_with fail
  go_loopw [66] (fun v66 wr => ∃ (i : Nat), i ≤ len ∧ v66 = .int .i64 (i : Int) ∧ Hid (∃ v1 v2, Grow w b1 b2 p q (zs.take i) (zs.take i) wr v1 v2)) (fun s _ => len - (intOf s).toNat)
  case atStart => exact ⟨0, Nat.zero_le _, rfl, Lib.hid ⟨_, _, L3.out⟩⟩
  case round =>
    clear L3
    obtain ⟨i, hi, rfl, RW⟩ := hrel
    obtain ⟨v1, v2, RV⟩ := RW.out
    have RS := Lib.hid RV
    clear RV RW
    have hlen : (zs.take i).length = i := by rw [List.length_take, Z.out.1]; omega
    by_cases hiN : i < len
    · obtain ⟨z, hz⟩ : ∃ z, zs[i]? = some z := ⟨_, List.getElem?_eq_getElem (by rw [Z.out.1]; exact hiN)⟩
      obtain ⟨hwz, g, o, rfl, hg, hc⟩ := Z.out.2 i z hz
      have hcr : wr.cell? ⟨g, o + i, none⟩ = some (.int .u16 z) := (RS.out.r.bel.cell (p := ⟨g, o + i, none⟩) hg).trans hc
      have hle : (zs.take i).length ≤ 1000000000 := by omega
      have TS := Lib.hid (take_snoc hz)
      have KA := Lib.hid (add_u16 z RS.out.r.ring p1 (by omega) hle)
      have KB : Hid (∀ wi va, Grow w b1 b2 p q (zs.take i ++ [z]) (zs.take i) wi va v2 → _) := Lib.hid (fun wi va (s : Grow w b1 b2 p q (zs.take i ++ [z]) (zs.take i) wi va v2) => add_u16 z s.s.ring (by omega) q2 hle)
      clear hz hwz hg hc hle
      go_wp2_with fail
      refine KA.out.mono ?_
      rintro e w4 ⟨rfl, v3, a3⟩
      have L4 := Lib.hid (RS.out.add p1 a3)
      clear a3 KA RS hcr
      go_wp2_with fail
      refine (KB.out _ _ L4.out).mono ?_
      rintro e w5 ⟨rfl, v4, a4⟩
      have L5 := Lib.hid ((L4.out.swap.add (by omega) a4).swap)
      have hl3 : (zs.take i ++ [z]).length = i + 1 := by rw [List.length_append, hlen]; rfl
      rw [← TS.out] at L5 hl3
      clear a4 KB L4 hlen TS
      obtain ⟨k1, hk1⟩ : ∃ k, min (i + 1) p = k := ⟨_, rfl⟩
      obtain ⟨k2, hk2⟩ : ∃ k, min (i + 1) q = k := ⟨_, rfl⟩
      have KC := Lib.hid (fun wi (s : Grow w b1 b2 p q (zs.take (i + 1)) (zs.take (i + 1)) wi v3 v4) => all_u16 s.r.ring (by omega))
      have KD := Lib.hid (fun wi (s : Grow w b1 b2 p q (zs.take (i + 1)) (zs.take (i + 1)) wi v3 v4) => all_u16 s.s.ring q2)
      rw [hl3, hk1] at KC
      rw [hl3, hk2] at KD
      go_wp2_with fail
      refine (KC.out _ L5.out).mono ?_
      rintro e w6 ⟨rfl, hr6, hb6⟩
      obtain ⟨H1, hH⟩ : ∃ H, H = w5.heap.size := ⟨_, rfl⟩
      rw [← hH] at hr6 ⊢
      have L6 := Lib.hid (And.intro (L5.out.below hb6) hr6)
      clear hb6 hr6 hH L5 KC
      go_wp2_with fail
      refine (KD.out _ L6.out.1).mono ?_
      rintro e w7 ⟨rfl, hr7, hb7⟩
      obtain ⟨H2, hH⟩ : ∃ H, H = w6.heap.size := ⟨_, rfl⟩
      rw [← hH] at hr7 ⊢
      have L7 := Lib.hid (And.intro (L6.out.1.below hb7) (And.intro (own_below L6.out.2 hb7 (Nat.le_refl _)) hr7))
      clear hb7 hr7 hH L6 KD
      have n1 : k1 ≤ k2 := by omega
      have n2 : k2 ≤ 64 := by omega
      have HK := Lib.hid (And.intro hk1 hk2)
      clear hk1 hk2
      have tD : decide (k2 < k1) = false := decide_eq_false (by omega)
      have tE : decide ((k2 : Int) < (k1 : Int)) = false := decide_eq_false (by omega)
      have k164 : k1 ≤ 64 := by omega
      have HN := Lib.hid n1
      clear n1
      go_wp2_with fail
      clear tD tE
      go_loopw [87] (fun v87 wi => ∃ (j : Nat), j ≤ k1 ∧ v87 = .int .i64 (j : Int) ∧ Hid (Grow w b1 b2 p q (zs.take (i + 1)) (zs.take (i + 1)) wi v3 v4 ∧ wi.ownsRow H1 55 1 (.slice (some ⟨H1, 0, none⟩) k1 k1) k1 (u16s (endOf p (zs.take (i + 1)))) ∧ wi.ownsRow H2 55 1 (.slice (some ⟨H2, 0, none⟩) k2 k2) k2 (u16s (endOf q (zs.take (i + 1)))))) (fun s _ => k1 - (intOf s).toNat)
      case atStart => exact ⟨0, Nat.zero_le _, rfl, L7⟩
      case round =>
        clear L7
        obtain ⟨j, hj, rfl, R2⟩ := hrel
        by_cases hjN : j < k1
        · have hl4 : (endOf p (zs.take (i + 1))).length = k1 := by rw [length_endOf, hl3]; exact HK.out.1
          obtain ⟨y, hy⟩ : ∃ y, (endOf p (zs.take (i + 1)))[j]? = some y := ⟨_, List.getElem?_eq_getElem (by rw [hl4]; exact hjN)⟩
          obtain ⟨s, hs⟩ : ∃ s, k2 - k1 = s := ⟨_, rfl⟩
          have hn1 := HN.out
          have hy2 : (endOf q (zs.take (i + 1)))[s + j]? = some y := by
            rw [endOf_endOf pq, hl3, HK.out.1, HK.out.2, hs] at hy
            exact hy
          have c1 : wr.cell? ⟨H1, j, none⟩ = some (.int .u16 y) := (R2.out.2.1.cellAt j (by omega)).trans (by unfold u16s; rw [List.getElem?_map, hy]; rfl)
          obtain ⟨t, ht⟩ : ∃ t, s + j = t := ⟨_, rfl⟩
          rw [ht] at hy2
          have c2 : wr.cell? ⟨H2, t, none⟩ = some (.int .u16 y) := (R2.out.2.2.cellAt t (by omega)).trans (by unfold u16s; rw [List.getElem?_map, hy2]; rfl)
          have s1 : (k2 : Int) - (k1 : Int) = (s : Int) := by omega
          have s2 : IntKind.i64.wrap (s : Int) = (s : Int) := by simp only [IntKind.wrap_i64]; omega
          have s3 : (s : Int) + (j : Int) = (t : Int) := by omega
          have s4 : IntKind.i64.wrap (t : Int) = (t : Int) := by simp only [IntKind.wrap_i64]; omega
          have s5 : (t : Int) < (k2 : Int) := by omega
          have s6 : (0 : Int) ≤ (t : Int) := by omega
          clear hl4 hy hy2 hs ht hn1
          go_wp2_with fail
          go_still_tail 14, (by kernel_rfl)
          clear s1 s2 s3 s4 s5 s6
          go_wp2
          go_roundw
          case rel => exact ⟨j + 1, by omega, by go_num, Lib.hid ⟨R2.out.1.below ⟨rfl, rfl, rfl, Nat.le_refl _, fun _ _ => rfl⟩, R2.out.2.1, R2.out.2.2⟩⟩
          case measure => simp [intOf]; omega
        · go_wp2
          refine ⟨⟨i + 1, by omega, by go_num, Lib.hid ⟨_, _, R2.out.1⟩⟩, ?_⟩
          simp [intOf]; omega
    · obtain ⟨k, hk⟩ : ∃ k, min len p = k := ⟨_, rfl⟩
      obtain rfl : i = len := by omega
      have KL := Lib.hid (fun wi (s : Rg_u16 wi w.heap.size b1 p (zs.take i).length (min (zs.take i).length p) v1 (u16s (endOf p (zs.take i)))) => len_u16 s)
      have KC := Lib.hid (clear_u16 RS.out.s.ring)
      have hm : (if i < p then (i : Int) else (p : Int)) = (k : Int) := by split <;> omega
      rw [hlen, hk] at KL
      rw [hlen] at KC
      go_wp2_with fail
      refine KC.out.mono ?_
      rintro e w4 ⟨rfl, hr4, ht4⟩
      have L4 := Lib.hid (And.intro (RS.out.r.ring.two ht4 RS.out.nb (by simp) (RS.out.r.ring.row_ne RS.out.s.ring) (fun _ _ => by simp)) (And.intro hr4 (RS.out.r.bel.trans (RS.out.s.ring.below_two ht4 (by simp)))))
      rw [hlen, hk] at L4
      clear hr4 ht4 RS KC hk
      go_wp2_with fail
      refine (KL.out _ L4.out.1).mono ?_
      rintro e w5 ⟨rfl, rfl⟩
      go_wp2_with fail
      refine (len_u16 L4.out.2.1).mono ?_
      rintro e w6 ⟨rfl, rfl⟩
      go_wp2_with fail
      refine (count_u16 L4.out.2.1).mono ?_
      rintro e w7 ⟨rfl, rfl⟩
      go_wp2
      go_ret
      exact ⟨rfl, L4.out.2.2⟩
end Go.Proofs.Ytpmmhnojofacpaa
