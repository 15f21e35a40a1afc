/- WakeActs' walk. -/
import Derived.Test.YtebdhleggbccdaaTq
import Derived.Test.YtebdhleggbccdaaRd
namespace Go.Proofs.Ytebdhleggbccdaa
open Go.RowKit Go.Maps

theorem block_ne {w : World} {g g' : Nat} {cs cs' : Array Value} {t t' : TypeId} {fr fr' : Nat × Nat} (h : w.heap[g]? = some (.cells cs t fr)) (h' : w.heap[g']? = some (.cells cs' t' fr')) (hne : t ≠ t') : g ≠ g' := fun e => by
  subst e
  rw [h] at h'
  injection h' with h'
  injection h' with _ h' _
  exact hne h'
theorem map_ne {w : World} {base b m s g : Nat} {L : List Ent} {cs : Array Value} {t : TypeId} {fr : Nat × Nat} (h : ks.Q w base b m s L) (h' : w.heap[g]? = some (.cells cs t fr)) : g ≠ m := fun e => by
  obtain ⟨D, ⟨es, c, hb, _⟩, _⟩ := h.map
  rw [← e, h'] at hb
  cases hb
theorem rnext_uni {w : World} {base b : Nat} {v : Value} {L : List Ent} (h : RQ w base b v (L.map onOf)) (hn : L.length ≤ 1001) :
    Calls Try.prog 15 #[.pointer (some ⟨b, 0, none⟩)] w fun e w' => (∃ n, NextIs L n ∧ e = .returned (.tuple #[.int .i64 n, .bool (!L.isEmpty)])) ∧ w' = w := by
  cases L with
  | nil =>
    refine (rnext_none h).mono ?_
    rintro e w' ⟨rfl, rfl⟩
    exact ⟨⟨0, .inl ⟨rfl, rfl⟩, rfl⟩, rfl⟩
  | cons x l =>
    refine (rnext_any h (by simpa using hn) (by simp)).mono ?_
    rintro e w' ⟨⟨n, ⟨⟨y, hy, hyn⟩, h2⟩, rfl⟩, rfl⟩
    refine ⟨⟨n, .inr ⟨by simp, ?_, fun e he => ?_⟩, rfl⟩, rfl⟩
    · obtain ⟨e, he, rfl⟩ := List.mem_map.1 hy
      exact ⟨e, he, hyn⟩
    · obtain ⟨j, hj, rfl⟩ := List.getElem_of_mem he
      exact h2 j (onOf (x :: l)[j]) (by simpa using hj) (by rw [List.getElem?_map, List.getElem?_eq_getElem hj]; rfl)
theorem find_on (k : ByteArray) (L : List Ent) : ((L.map onOf).find? fun e => decide (e.1 = k)).map (·.2) = atQ k L := by
  unfold atQ
  rw [List.find?_map, Option.map_map]
  rfl
theorem map_drop_on (k : ByteArray) (L : List Ent) : (dropQ k L).map onOf = odrop k (L.map onOf) := by
  unfold dropQ odrop
  rw [List.filter_map]
  rfl
theorem map_put_on (k : ByteArray) (a t : Int) (L : List Ent) : (putQ k a t L).map onOf = odrop k (L.map onOf) ++ [(k, a)] := by
  unfold putQ
  rw [List.map_append, map_drop_on]
  rfl
theorem keys_flat (l : List Ent) : ks.keysOf l = flat sv l := by
  unfold ks.keysOf flat
  induction l with
  | nil => rfl
  | cons x r ih => rw [List.map_cons, List.flatMap_cons, ih]; rfl
/-- A queue and the document's, side by side. -/
structure Side (w wi : World) (b m s : Nat) (L : List Ent) (b2 : Nat) (v2 : Value) : Prop where
  q : Oq w wi b m s L
  r : RQ wi w.heap.size b2 v2 (L.map onOf)
section
variable {w wi wj : World} {b m s t b2 : Nat} {L L' : List Ent} {v2 v' : Value}
theorem Side.below (h : Side w wi b m s L b2 v2) (hb : Below wi.heap.size wi wj) : Side w wj b m s L b2 v2 := ⟨h.q.below hb, h.r.below hb (Nat.le_refl _)⟩
theorem Side.apart {q : Oq w wi b m s L} {R : List On} (r : RQ wi w.heap.size b2 v2 R) (_ : Oq w wi b m s L := q) : b2 ≠ b ∧ b2 ≠ m ∧ (∀ p, v2.ownBlock = some p → p ≠ b ∧ p ≠ m) := by
  refine ⟨block_ne r.blk q.q.blk (by decide), map_ne q.q r.blk, fun p hp => ?_⟩
  obtain ⟨_, _, cur, hg⟩ := own_lt r.row hp
  exact ⟨block_ne hg q.q.blk (by decide), map_ne q.q hg⟩
/-- The queue is written; the document's stays as it was. -/
theorem wrote_q {R : List On} (q : Oq w wi b m s L) (r : RQ wi w.heap.size b2 v2 R) (hq : ks.Q wj w.heap.size b m t L') (g : Two b (some m) wi wj) : Oq w wj b m t L' ∧ RQ wj w.heap.size b2 v2 R := by
  obtain ⟨h1, h2, h3⟩ := Side.apart (q := q) r
  exact ⟨q.wrote hq g, r.two g h1 (fun e => h2 (by injection e with e; exact e.symm)) (fun e => (h3 b e).1 rfl) (fun p hp e => (h3 p hp).2 (by injection e with e; exact e.symm))⟩
/-- The document's is written; the queue stays. -/
theorem wrote_r {R R' : List On} (q : Oq w wi b m s L) (r : RQ wi w.heap.size b2 v2 R) (hr : RQ wj w.heap.size b2 v' R') (g : Two b2 none wi wj) : Oq w wj b m s L := by
  obtain ⟨h1, h2, h3⟩ := Side.apart (q := q) r
  exact ⟨q.q.two g h1.symm (by simp) h2.symm (by simp), q.bel.trans (g.below q.bel.size hr.own (by simp))⟩
end

set_option maxRecDepth 100000 in
set_option maxHeartbeats 2000000 in
theorem walk_acts (A : Option Addr) (len cap : Nat) (lim : Int) (w : World) (hz : ActsIn w A len cap) :
    Calls Try.prog 3 #[.slice A len cap, .int .i64 lim] w fun e w' => e = .returned (.bool true) ∧ Below w.heap.size w w' := by
  obtain ⟨hlc, hcm, zs, hzl, hzs⟩ := hz
  have l2 : cap ≤ 9223372036854775807 := by unfold maxLen at hcm; omega
  have Z := Lib.hid (And.intro hzs hzl)
  clear hzs hzl
  go_enter Try.func3, Try.ntmps3
  go_wp2_with fail
  refine (ks.new_any _).mono ?_
  rintro e w1 ⟨rfl, hq1, hb1⟩
  obtain ⟨b, eb1⟩ : ∃ b, b = w.heap.size + 1 := ⟨_, rfl⟩
  obtain ⟨m, em1⟩ : ∃ m, m = w.heap.size := ⟨_, rfl⟩
  have R1 := Lib.hid (Oq.new (Below.refl w.heap.size w) eb1 em1 hq1 hb1)
  rw [← eb1]
  clear hq1 hb1 eb1 em1
  go_wp2_with fail
  refine (alive_any _).mono ?_
  rintro e w3 ⟨rfl, hb3⟩
  have R3 := Lib.hid (R1.out.below hb3)
  clear hb3 R1
  by_cases hlen : 200 < len
  · go_wp2_with fail
    refine (alive_any _).mono ?_
    rintro e w4 ⟨rfl, hb4⟩
    have R4 := Lib.hid (bel_trans R3.out.bel hb4)
    clear hb4 R3
    go_wp2
    go_ret
    exact ⟨rfl, R4.out⟩
  obtain ⟨W, hW⟩ : ∃ W, W = w3.alloc (.cells #[.slice none 0 0] 29) := ⟨_, rfl⟩
  obtain ⟨b2, hb2⟩ : ∃ b, b = w3.heap.size := ⟨_, rfl⟩
  have hbW : Below w3.heap.size w3 W := by rw [hW]; exact (Below.refl _ _).alloc (Nat.le_refl _) _
  have S0 := Lib.hid (show Side w W b m 0 [] b2 (.slice none 0 0) from ⟨R3.out.below hbW, ⟨by rw [hW, hb2]; exact heap_alloc_new w3 _, by simpa [flat] using World.ownsRow_nil _ _ _ _, by rw [hb2]; exact R3.out.bel.size⟩⟩)
  have HW := Lib.hid (And.intro hW hb2)
  clear hbW hW hb2 R3
  go_wp2_with fail
  rw [← HW.out.1, ← HW.out.2]
  clear HW
  go_loopw [37] (fun v37 wr => ∃ i : Nat, i ≤ len ∧ v37 = .int .i64 (i : Int) ∧ Hid (∃ s L v2, s ≤ i ∧ L.length ≤ i ∧ Side w wr b m s L b2 v2)) (fun s _ => len - (intOf s).toNat)
  case atStart => exact ⟨0, Nat.zero_le _, rfl, Lib.hid ⟨0, [], _, Nat.le_refl _, Nat.le_refl _, S0.out⟩⟩
  case round =>
    clear S0
    obtain ⟨i, hi, rfl, RW⟩ := hrel
    by_cases hlt : i < len
    · obtain ⟨s, L, v2, hsi, hLi, sd⟩ := RW.out
      obtain ⟨z, hzi⟩ : ∃ z, zs[i]? = some z := ⟨zs[i]'(by have := Z.out.2; omega), List.getElem?_eq_getElem _⟩
      obtain ⟨g, o, rfl, hg, c0, c1, c2⟩ := (Z.out.1.later sd.q.bel).at' i z hzi
      have hzin := Z.out.1.ok z (List.mem_of_getElem? hzi)
      obtain ⟨zk, zt, za⟩ := z
      obtain ⟨W, hW⟩ : ∃ W, W = wr.alloc (.cells #[.int .i64 zk, .string zt, .int .i64 za] 31) := ⟨_, rfl⟩
      obtain ⟨P, hP⟩ : ∃ P, P = wr.heap.size := ⟨_, rfl⟩
      have hbW : Below wr.heap.size wr W := by rw [hW]; exact (Below.refl _ _).alloc (Nat.le_refl _) _
      have aP : ActB W P ⟨zk, zt, za⟩ := by rw [hW, hP]; exact ActB.new wr ⟨zk, zt, za⟩
      have nP : P ≠ b ∧ P ≠ m ∧ P ≠ b2 := by have := sd.q.q.lt; have := sd.q.q.ltm; have := sd.r.lt; omega
      have R0 := Lib.hid (And.intro (sd.below hbW) (And.intro aP (And.intro nP (And.intro hsi hLi))))
      have HZ := Lib.hid (And.intro True.intro (And.intro (show ks.KOk zt from hzin.s1) (show (Lit.int .i64 za).wf = true from hzin.a1)))
      have HW := Lib.hid (And.intro hW hP)
      clear sd hzi hg hzin hbW aP nP hW hP RW hLi
      by_cases hk0 : zk = 0
      · subst hk0
        go_wp2_with fail
        rw [← HW.out.1, ← HW.out.2]
        clear c0 c1 c2 HW
        refine (ks.set_any R0.out.1.q.q HZ.out.2.1 HZ.out.2.2 (by omega)).mono ?_
        rintro e w4 ⟨rfl, hq4, t4⟩
        obtain ⟨q4, r4⟩ := wrote_q R0.out.1.q R0.out.1.r hq4 t4
        have aP4 := R0.out.2.1.two t4 R0.out.2.2.1.1 R0.out.2.2.1.2.1
        have R4 := Lib.hid (And.intro q4 (And.intro r4 aP4))
        have e1 := aP4.cells.2.1
        have e2 := aP4.cells.2.2
        clear hq4 t4 aP4 q4 r4
        go_wp2_with fail
        refine (rset_any R4.out.2.1 (by rw [List.length_map]; have := R0.out.2.2.2.2; omega) zt za).mono ?_
        rintro e w5 ⟨rfl, v1, hr5, t5, _⟩
        rw [← map_put_on zt za ((s + 1 : Nat) : Int)] at hr5
        have q5 := wrote_r R4.out.1 R4.out.2.1 hr5 t5
        have aP5 : ActB w5 P ⟨0, zt, za⟩ := (t5.block P (heap_lt R4.out.2.2) R0.out.2.2.1.2.2 (by simp)).trans R4.out.2.2
        obtain ⟨L1, hL1⟩ : ∃ L1, L1 = putQ zt za ((s + 1 : Nat) : Int) L := ⟨_, rfl⟩
        obtain ⟨s1, hs1⟩ : ∃ s1, s1 = s + 1 := ⟨_, rfl⟩
        rw [← hL1, ← hs1] at q5
        rw [← hL1] at hr5
        have hl1 : L1.length ≤ i + 1 := by
          have h1 := length_putQ zt za ((s + 1 : Nat) : Int) L
          have h2 := R0.out.2.2.2.2
          rw [hL1]
          omega
        have R5 := Lib.hid (And.intro (show Side w w5 b m s1 L1 b2 v1 from ⟨q5, hr5⟩) (And.intro aP5 (And.intro hl1 (show s1 ≤ i + 1 by omega))))
        clear hr5 t5 q5 aP5 hL1 hs1 hl1 R4 R0 e1 e2
        obtain ⟨B, hB⟩ : ∃ B, B = !L1.isEmpty := ⟨_, rfl⟩
        obtain ⟨x, hx⟩ : ∃ x, x = (atQ zt L1).getD 0 := ⟨_, rfl⟩
        obtain ⟨Bx, hBx⟩ : ∃ Bx, Bx = (atQ zt L1).isSome := ⟨_, rfl⟩
        obtain ⟨nd, hnd⟩ : ∃ n, n = (dueQ lim L1).length := ⟨_, rfl⟩
        obtain ⟨nl, hnl⟩ : ∃ n, n = L1.length := ⟨_, rfl⟩
        have hnd1 : nd ≤ 1000 := by have := length_dueQ lim L1; have := R5.out.2.2.1; omega
        have hnl1 : nl ≤ 1000 := by have := R5.out.2.2.1; omega
        have E := Lib.hid (And.intro hB (And.intro hx (And.intro hBx (And.intro hnd hnl))))
        clear hB hx hBx hnd hnl
        go_wp2_with fail
        refine (next_uni R5.out.1.q.q).mono ?_
        rintro e w6 ⟨⟨n1, hn1, rfl⟩, hb6⟩
        rw [← E.out.1]
        have R6 := Lib.hid (And.intro (R5.out.1.below hb6) (And.intro (R5.out.2.1.below hb6) hn1))
        clear hb6 hn1
        go_wp2_with fail
        refine (rnext_uni R6.out.1.r (by have := R5.out.2.2.1; omega)).mono ?_
        rintro e w7 ⟨⟨n2, hn2, rfl⟩, rfl⟩
        obtain rfl := R6.out.2.2.one hn2
        rw [← E.out.1]
        clear hn2
        have e1 := R6.out.2.1.cells.2.1
        go_wp2_with fail
        refine (ks.at_any R6.out.1.q.q HZ.out.2.1).mono ?_
        rintro e w8 ⟨rfl, hb8⟩
        rw [← E.out.2.1, ← E.out.2.2.1]
        have R8 := Lib.hid (And.intro (R6.out.1.below hb8) (R6.out.2.1.below hb8))
        clear hb8 R6 e1
        have e1 := R8.out.2.cells.2.1
        go_wp2_with fail
        refine (rat_any R8.out.1.r (by rw [List.length_map]; have := R5.out.2.2.1; omega) zt).mono ?_
        rintro e w9 ⟨rfl, rfl⟩
        rw [find_on, ← E.out.2.1, ← E.out.2.2.1]
        clear e1
        go_wp2_with fail
        refine (ks.due_any R8.out.1.q.q (by have := R5.out.2.2.1; omega) lim).mono ?_
        rintro e w10 ⟨H, rfl, hH, hl10, hb10⟩
        rw [← E.out.2.2.2.1]
        rw [keys_flat] at hl10
        have R10 := Lib.hid (And.intro (R8.out.1.below hb10) hl10)
        clear hb10 hl10 hH R8
        go_wp2_with fail
        refine (rdue_any R10.out.1.r R10.out.1.q.q.ok (by have := R5.out.2.2.1; omega) lim).mono ?_
        rintro e w11 ⟨A3, c3, rfl, hc3, hl11, hb11⟩
        rw [← E.out.2.2.2.1] at hc3 ⊢
        have R11 := Lib.hid (And.intro (R10.out.1.below hb11) (And.intro (R10.out.2.later hb11) hl11))
        clear hb11 hl11 R10
        have hk0 := fun (k : Nat) => Calls.quiet_of_same (w := w11) (n := k) ((ks.len_any (R11.out.1.q.q.below (below_drewN (Below.refl _ _) k) (Nat.le_refl _))).mono fun _ _ h => ⟨h.1, h.2⟩)
        rw [← E.out.2.2.2.2] at hk0
        obtain ⟨A4, c4, hv4, _, _⟩ := own_len R11.out.1.r.row
        have f0 := R11.out.1.r.cell
        rw [hv4, List.length_map, ← E.out.2.2.2.2] at f0
        clear hv4
        go_wp2_with fail
        go_quiet (with_reducible exact hk0 _)
        obtain ⟨W2, hW2⟩ : ∃ W, W = w11.drewN nq := ⟨_, rfl⟩
        rw [← hW2]
        have R12 := Lib.hid (show Side w W2 b m s1 L1 b2 v1 ∧ Lies W2 (some ⟨H, 0, none⟩) (flat sv (dueQ lim L1)) ∧ Lies W2 A3 (flat sv (dueQ lim L1)) by
          have hb : Below w11.heap.size w11 W2 := by rw [hW2]; exact below_drewN (Below.refl _ _) _
          exact ⟨R11.out.1.below hb, R11.out.2.1.later hb, R11.out.2.2.later hb⟩)
        clear hW2 hk0 f0 R11
        have hc3' : nd ≤ 9223372036854775807 := by omega
        go_wp2
        go_loopw [131] (fun v131 wr => ∃ k : Nat, k ≤ nd ∧ v131 = .int .i64 (k : Int) ∧ Hid (Below W2.heap.size W2 wr)) (fun s _ => nd - (intOf s).toNat)
        case atStart => exact ⟨0, Nat.zero_le _, rfl, Lib.hid (Below.refl _ _)⟩
        case round =>
          obtain ⟨k, hk, rfl, RB⟩ := hrel
          by_cases hlt : k < nd
          · obtain ⟨y, hy⟩ : ∃ y, (dueQ lim L1)[k]? = some y := ⟨(dueQ lim L1)[k]'(by have := E.out.2.2.2.1; omega), List.getElem?_eq_getElem _⟩
            obtain ⟨g1, o1, e1, _, hc1⟩ := (R12.out.2.1.later RB.out).at sv_len (by omega) hy
            obtain ⟨g2, o2, rfl, _, hc2⟩ := (R12.out.2.2.later RB.out).at sv_len (by omega) hy
            injection e1 with e1
            injection e1 with e1 e2 _
            subst e1 e2
            have d1 : wr.cell? ⟨H, k, none⟩ = some (.string y.1) := by simpa using hc1 0 _ rfl
            have d2 : wr.cell? ⟨g2, o2 + k, none⟩ = some (.string y.1) := by simpa using hc2 0 _ rfl
            clear hc1 hc2 hy
            go_wp2_with fail
            go_quiet (fail)
            go_wp2
            exact ⟨⟨k + 1, by omega, by go_num, Lib.hid (below_drewN RB.out _)⟩, by simp [intOf]; omega⟩
          · obtain rfl : k = nd := by omega
            go_wp2
            refine ⟨⟨i + 1, by omega, by go_num, Lib.hid ⟨s1, L1, v1, R5.out.2.2.2, R5.out.2.2.1, R12.out.1.below RB.out⟩⟩, ?_⟩
            simp [intOf]; omega
      · go_wp2_with fail
        rw [← HW.out.1, ← HW.out.2]
        clear c0 c1 c2 HW
        refine (ks.drop_any R0.out.1.q.q HZ.out.2.1).mono ?_
        rintro e w4 ⟨rfl, hq4, t4⟩
        obtain ⟨q4, r4⟩ := wrote_q R0.out.1.q R0.out.1.r hq4 t4
        have aP4 := R0.out.2.1.two t4 R0.out.2.2.1.1 R0.out.2.2.1.2.1
        have R4 := Lib.hid (And.intro q4 (And.intro r4 aP4))
        have e1 := aP4.cells.2.1
        clear hq4 t4 aP4 q4 r4
        go_wp2_with fail
        refine (rdrop_any R4.out.2.1 (by rw [List.length_map]; have := R0.out.2.2.2.2; omega) zt).mono ?_
        rintro e w5 ⟨rfl, v1, hr5, t5, _⟩
        rw [← map_drop_on] at hr5
        have q5 := wrote_r R4.out.1 R4.out.2.1 hr5 t5
        have aP5 : ActB w5 P ⟨zk, zt, za⟩ := (t5.block P (heap_lt R4.out.2.2) R0.out.2.2.1.2.2 (by simp)).trans R4.out.2.2
        obtain ⟨L1, hL1⟩ : ∃ L1, L1 = dropQ zt L := ⟨_, rfl⟩
        obtain ⟨s1, hs1⟩ : ∃ s1, s1 = s := ⟨_, rfl⟩
        rw [← hL1, ← hs1] at q5
        rw [← hL1] at hr5
        have hl1 : L1.length ≤ i + 1 := by
          have h1 := length_dropQ zt L
          have h2 := R0.out.2.2.2.2
          rw [hL1]
          omega
        have R5 := Lib.hid (And.intro (show Side w w5 b m s1 L1 b2 v1 from ⟨q5, hr5⟩) (And.intro aP5 (And.intro hl1 (show s1 ≤ i + 1 by omega))))
        clear hr5 t5 q5 aP5 hL1 hs1 hl1 R4 R0 e1 hk0
        obtain ⟨B, hB⟩ : ∃ B, B = !L1.isEmpty := ⟨_, rfl⟩
        obtain ⟨x, hx⟩ : ∃ x, x = (atQ zt L1).getD 0 := ⟨_, rfl⟩
        obtain ⟨Bx, hBx⟩ : ∃ Bx, Bx = (atQ zt L1).isSome := ⟨_, rfl⟩
        obtain ⟨nd, hnd⟩ : ∃ n, n = (dueQ lim L1).length := ⟨_, rfl⟩
        obtain ⟨nl, hnl⟩ : ∃ n, n = L1.length := ⟨_, rfl⟩
        have hnd1 : nd ≤ 1000 := by have := length_dueQ lim L1; have := R5.out.2.2.1; omega
        have hnl1 : nl ≤ 1000 := by have := R5.out.2.2.1; omega
        have E := Lib.hid (And.intro hB (And.intro hx (And.intro hBx (And.intro hnd hnl))))
        clear hB hx hBx hnd hnl
        go_wp2_with fail
        refine (next_uni R5.out.1.q.q).mono ?_
        rintro e w6 ⟨⟨n1, hn1, rfl⟩, hb6⟩
        rw [← E.out.1]
        have R6 := Lib.hid (And.intro (R5.out.1.below hb6) (And.intro (R5.out.2.1.below hb6) hn1))
        clear hb6 hn1
        go_wp2_with fail
        refine (rnext_uni R6.out.1.r (by have := R5.out.2.2.1; omega)).mono ?_
        rintro e w7 ⟨⟨n2, hn2, rfl⟩, rfl⟩
        obtain rfl := R6.out.2.2.one hn2
        rw [← E.out.1]
        clear hn2
        have e1 := R6.out.2.1.cells.2.1
        go_wp2_with fail
        refine (ks.at_any R6.out.1.q.q HZ.out.2.1).mono ?_
        rintro e w8 ⟨rfl, hb8⟩
        rw [← E.out.2.1, ← E.out.2.2.1]
        have R8 := Lib.hid (And.intro (R6.out.1.below hb8) (R6.out.2.1.below hb8))
        clear hb8 R6 e1
        have e1 := R8.out.2.cells.2.1
        go_wp2_with fail
        refine (rat_any R8.out.1.r (by rw [List.length_map]; have := R5.out.2.2.1; omega) zt).mono ?_
        rintro e w9 ⟨rfl, rfl⟩
        rw [find_on, ← E.out.2.1, ← E.out.2.2.1]
        clear e1
        go_wp2_with fail
        refine (ks.due_any R8.out.1.q.q (by have := R5.out.2.2.1; omega) lim).mono ?_
        rintro e w10 ⟨H, rfl, hH, hl10, hb10⟩
        rw [← E.out.2.2.2.1]
        rw [keys_flat] at hl10
        have R10 := Lib.hid (And.intro (R8.out.1.below hb10) hl10)
        clear hb10 hl10 hH R8
        go_wp2_with fail
        refine (rdue_any R10.out.1.r R10.out.1.q.q.ok (by have := R5.out.2.2.1; omega) lim).mono ?_
        rintro e w11 ⟨A3, c3, rfl, hc3, hl11, hb11⟩
        rw [← E.out.2.2.2.1] at hc3 ⊢
        have R11 := Lib.hid (And.intro (R10.out.1.below hb11) (And.intro (R10.out.2.later hb11) hl11))
        clear hb11 hl11 R10
        have hk0 := fun (k : Nat) => Calls.quiet_of_same (w := w11) (n := k) ((ks.len_any (R11.out.1.q.q.below (below_drewN (Below.refl _ _) k) (Nat.le_refl _))).mono fun _ _ h => ⟨h.1, h.2⟩)
        rw [← E.out.2.2.2.2] at hk0
        obtain ⟨A4, c4, hv4, _, _⟩ := own_len R11.out.1.r.row
        have f0 := R11.out.1.r.cell
        rw [hv4, List.length_map, ← E.out.2.2.2.2] at f0
        clear hv4
        go_wp2_with fail
        go_quiet (with_reducible exact hk0 _)
        obtain ⟨W2, hW2⟩ : ∃ W, W = w11.drewN nq := ⟨_, rfl⟩
        rw [← hW2]
        have R12 := Lib.hid (show Side w W2 b m s1 L1 b2 v1 ∧ Lies W2 (some ⟨H, 0, none⟩) (flat sv (dueQ lim L1)) ∧ Lies W2 A3 (flat sv (dueQ lim L1)) by
          have hb : Below w11.heap.size w11 W2 := by rw [hW2]; exact below_drewN (Below.refl _ _) _
          exact ⟨R11.out.1.below hb, R11.out.2.1.later hb, R11.out.2.2.later hb⟩)
        clear hW2 hk0 f0 R11
        have hc3' : nd ≤ 9223372036854775807 := by omega
        go_wp2
        go_loopw [131] (fun v131 wr => ∃ k : Nat, k ≤ nd ∧ v131 = .int .i64 (k : Int) ∧ Hid (Below W2.heap.size W2 wr)) (fun s _ => nd - (intOf s).toNat)
        case atStart => exact ⟨0, Nat.zero_le _, rfl, Lib.hid (Below.refl _ _)⟩
        case round =>
          obtain ⟨k, hk, rfl, RB⟩ := hrel
          by_cases hlt : k < nd
          · obtain ⟨y, hy⟩ : ∃ y, (dueQ lim L1)[k]? = some y := ⟨(dueQ lim L1)[k]'(by have := E.out.2.2.2.1; omega), List.getElem?_eq_getElem _⟩
            obtain ⟨g1, o1, e1, _, hc1⟩ := (R12.out.2.1.later RB.out).at sv_len (by omega) hy
            obtain ⟨g2, o2, rfl, _, hc2⟩ := (R12.out.2.2.later RB.out).at sv_len (by omega) hy
            injection e1 with e1
            injection e1 with e1 e2 _
            subst e1 e2
            have d1 : wr.cell? ⟨H, k, none⟩ = some (.string y.1) := by simpa using hc1 0 _ rfl
            have d2 : wr.cell? ⟨g2, o2 + k, none⟩ = some (.string y.1) := by simpa using hc2 0 _ rfl
            clear hc1 hc2 hy
            go_wp2_with fail
            go_quiet (fail)
            go_wp2
            exact ⟨⟨k + 1, by omega, by go_num, Lib.hid (below_drewN RB.out _)⟩, by simp [intOf]; omega⟩
          · obtain rfl : k = nd := by omega
            go_wp2
            refine ⟨⟨i + 1, by omega, by go_num, Lib.hid ⟨s1, L1, v1, R5.out.2.2.2, R5.out.2.2.1, R12.out.1.below RB.out⟩⟩, ?_⟩
            simp [intOf]; omega
    · obtain ⟨s, L, v2, hsi, hLi, sd⟩ := RW.out
      have hbw := Lib.hid sd.q.bel
      clear sd RW
      go_wp2
      go_ret
      exact ⟨rfl, hbw.out⟩
end Go.Proofs.Ytebdhleggbccdaa
