/- WakeOrder's walk. -/
import Derived.Test.YtebdhleggbccdaaSg
import Derived.BigQuiet
namespace Go.Proofs.Ytebdhleggbccdaa
open Go.RowKit Go.Maps

theorem keys_flat' (l : List Ent) : ks.keysOf l = flat (fun e : Ent => [Value.string e.1]) l := by
  unfold ks.keysOf flat
  induction l with
  | nil => rfl
  | cons x r ih => rw [List.map_cons, List.flatMap_cons, ih]; rfl
theorem key_cell {w : World} {H k : Nat} {l : List Ent} {x : Ent} (h : Lies w (some ⟨H, 0, none⟩) (ks.keysOf l)) (hx : l[k]? = some x) : w.cell? ⟨H, k, none⟩ = some (.string x.1) := by
  have k1 : (ks.keysOf l)[k]? = some (.string x.1) := by rw [ks.keysOf, List.getElem?_map, hx]; rfl
  obtain ⟨g, o, e, _, hc⟩ := h.open (by have := (List.getElem?_eq_some_iff.1 k1).1; omega)
  injection e with e
  injection e with e e' _
  subst e e'
  simpa using hc k _ k1

set_option maxRecDepth 100000 in
set_option maxHeartbeats 2000000 in
theorem walk_order (A : Option Addr) (len cap : Nat) (lim : Int) (w : World) (hz : ActsIn w A len cap) :
    Calls Try.prog 5 #[.slice A len cap, .int .i64 lim] w fun e w' => e = .returned (.bool true) ∧ Below w.heap.size w w' := by
  obtain ⟨hlc, hcm, zs, hzl, hzs⟩ := hz
  have l2 : cap ≤ 9223372036854775807 := by unfold maxLen at hcm; omega
  have Z := Lib.hid (And.intro hzs hzl)
  clear hzs hzl
  go_enter Try.func5, Try.ntmps5
  go_wp2_with fail
  refine (ks.new_any _).mono ?_
  rintro e w1 ⟨rfl, hq1, hb1⟩
  obtain ⟨b, eb1⟩ : ∃ b, b = w.heap.size + 1 := ⟨_, rfl⟩
  obtain ⟨m, em1⟩ : ∃ m, m = w.heap.size := ⟨_, rfl⟩
  have R1 := Lib.hid (Oq.new (Below.refl w.heap.size w) eb1 em1 hq1 hb1)
  rw [← eb1]
  clear hq1 hb1 eb1 em1
  go_wp2_with fail
  refine (alive_any _).mono ?_
  rintro e w3 ⟨rfl, hb3⟩
  have R3 := Lib.hid (R1.out.below hb3)
  clear hb3 R1
  by_cases hlen : 200 < len
  · go_wp2_with fail
    refine (alive_any _).mono ?_
    rintro e w4 ⟨rfl, hb4⟩
    have R4 := Lib.hid (bel_trans R3.out.bel hb4)
    clear hb4 R3
    go_wp2
    go_ret
    exact ⟨rfl, R4.out⟩
  obtain ⟨W, hW⟩ : ∃ W, W = w3.alloc (.map #[] 0) := ⟨_, rfl⟩
  obtain ⟨mt, hmt⟩ : ∃ b, b = w3.heap.size := ⟨_, rfl⟩
  have hbW : Below w3.heap.size w3 W := by rw [hW]; exact (Below.refl _ _).alloc (Nat.le_refl _) _
  have hmd : W.ownsMap Try.prog 9 (plainElem (H := Unit) Try.prog 2) mt 0 (.map []) := by rw [hW, hmt]; exact World.ownsMap_made w3 Try.prog 9 (plainElem (H := Unit) Try.prog 2)
  have S0 := Lib.hid (show Og w W b m 0 [] mt 0 (.map []) from ⟨R3.out.below hbW, hmd, repA_nil, by rw [hmt]; exact R3.out.bel.size, by have := R3.out.q.lt; have := R3.out.q.ltm; omega⟩)
  have HW := Lib.hid (And.intro hW hmt)
  have hmm := fun W => run_makeMap (P := Try.prog) 49 W
  clear hbW hW hmt hmd R3
  go_wp2_with fail
  rw [← HW.out.1, ← HW.out.2]
  clear HW hmm
  go_loopw [35] (fun v35 wr => ∃ i : Nat, i ≤ len ∧ v35 = .int .i64 (i : Int) ∧ Hid (∃ s L D, s ≤ i ∧ L.length ≤ i ∧ Og w wr b m s L mt i D)) (fun s _ => len - (intOf s).toNat)
  case atStart => exact ⟨0, Nat.zero_le _, rfl, Lib.hid ⟨0, [], _, Nat.le_refl _, Nat.le_refl _, S0.out⟩⟩
  case round =>
    clear S0
    obtain ⟨i, hi, rfl, RW⟩ := hrel
    by_cases hlt : i < len
    · obtain ⟨s, L, D, hsi, hLi, og⟩ := RW.out
      obtain ⟨z, hzi⟩ : ∃ z, zs[i]? = some z := ⟨zs[i]'(by have := Z.out.2; omega), List.getElem?_eq_getElem _⟩
      obtain ⟨g, o, rfl, hg, c0, c1, c2⟩ := (Z.out.1.later og.q.bel).at' i z hzi
      have hzin := Z.out.1.ok z (List.mem_of_getElem? hzi)
      obtain ⟨zk, zt, za⟩ := z
      obtain ⟨W, hW⟩ : ∃ W, W = wr.alloc (.cells #[.int .i64 zk, .string zt, .int .i64 za] 31) := ⟨_, rfl⟩
      obtain ⟨P, hP⟩ : ∃ P, P = wr.heap.size := ⟨_, rfl⟩
      have hbW : Below wr.heap.size wr W := by rw [hW]; exact (Below.refl _ _).alloc (Nat.le_refl _) _
      have aP : ActB W P ⟨zk, zt, za⟩ := by rw [hW, hP]; exact ActB.new wr ⟨zk, zt, za⟩
      have nP : P ≠ b ∧ P ≠ m := by have := og.q.q.lt; have := og.q.q.ltm; omega
      have R0 := Lib.hid (And.intro (og.below hbW) (And.intro aP (And.intro nP (And.intro hsi hLi))))
      have HZ := Lib.hid (And.intro (show ks.KOk zt from hzin.s1) (show (Lit.int .i64 za).wf = true from hzin.a1))
      have HW := Lib.hid (And.intro hW hP)
      clear og hzi hg hzin hbW aP nP hW hP RW hLi
      by_cases hk0 : zk = 0
      · subst hk0
        go_wp2_with fail
        rw [← HW.out.1, ← HW.out.2]
        clear c0 c1 c2 HW
        refine (ks.set_any R0.out.1.q.q HZ.out.1 HZ.out.2 (by omega)).mono ?_
        rintro e w4 ⟨rfl, hq4, t4⟩
        obtain ⟨q4, o4⟩ := R0.out.1.wrote_q hq4 t4
        have aP4 := R0.out.2.1.two t4 R0.out.2.2.1.1 R0.out.2.2.1.2
        have R4 := Lib.hid (And.intro q4 o4)
        have e1 := aP4.cells.2.1
        have e2 := aP4.cells.2.2
        clear hq4 t4 aP4 q4 o4
        go_wp2_with (at_mapUpdate; refine wpList_mapUpdate_own _ rfl _ _ _ 49 rfl 9 2 ks.keyed Try.underlying49 (plainElem (H := Unit) Try.prog 2) mt i D rfl R4.out.2 (by unfold maxLen; omega) _ _ (ks.KL zt) rfl rfl (ks.key_mk HZ.out.1) _ [] (plainElem_int Try.underlying2 HZ.out.2) ?_; intro w6 ho6 hg6; have R6 := Lib.hid (wrote_m R4.out.1 R0.out.1.own R0.out.1.ne ho6 hg6 (R0.out.1.rep.put R0.out.1.q.q.ok (R0.out.1.at'.tidy ks.keyed) (ks.KL_key HZ.out.1) za ((s + 1 : Nat) : Int))); clear ho6 hg6)
        refine ⟨⟨i + 1, by omega, by go_num, Lib.hid ⟨s + 1, _, _, by omega, ?_, R6.out⟩⟩, ?_⟩
        · have := length_putQ zt za ((s + 1 : Nat) : Int) L
          have := R0.out.2.2.2.2
          omega
        · simp [intOf]; omega
      · go_wp2_with fail
        rw [← HW.out.1, ← HW.out.2]
        clear c0 c1 c2 HW
        refine (ks.drop_any R0.out.1.q.q HZ.out.1).mono ?_
        rintro e w4 ⟨rfl, hq4, t4⟩
        obtain ⟨q4, o4⟩ := R0.out.1.wrote_q hq4 t4
        have aP4 := R0.out.2.1.two t4 R0.out.2.2.1.1 R0.out.2.2.1.2
        have R4 := Lib.hid (And.intro q4 o4)
        have e1 := aP4.cells.2.1
        clear hq4 t4 aP4 q4 o4
        go_wp2_with (at_delete; refine wpList_delete_own _ rfl _ _ 49 9 rfl 2 ks.keyed Try.underlying49 (plainElem (H := Unit) Try.prog 2) mt i D rfl R4.out.2 _ (ks.KL zt) rfl (ks.key_mk HZ.out.1) ?_; intro w6 ho6 ht6; have R6 := Lib.hid (wrote_m R4.out.1 R0.out.1.own R0.out.1.ne ho6 ht6.grown (R0.out.1.rep.drop R0.out.1.q.q.ok (R0.out.1.at'.tidy ks.keyed) zt)); clear ho6 ht6)
        refine ⟨⟨i + 1, by omega, by go_num, Lib.hid ⟨s, _, _, by omega, ?_, ⟨R6.out.q, R6.out.at'.mono (Nat.le_succ i), R6.out.rep, R6.out.own, R6.out.ne⟩⟩⟩, ?_⟩
        · have := length_dropQ zt L
          have := R0.out.2.2.2.2
          omega
        · simp [intOf]; omega
    · obtain rfl : i = len := by omega
      obtain ⟨s, L, D, hsi, hLi, og⟩ := RW.out
      have R0 := Lib.hid og
      clear og RW
      obtain ⟨wo, rfl⟩ : ∃ wo, wo = wr := ⟨_, rfl⟩
      go_wp2_with fail
      refine (ks.due_any R0.out.q.q (by omega) lim).mono ?_
      rintro e w4 ⟨H, rfl, hH, hl4, hb4⟩
      obtain ⟨nd, hnd⟩ : ∃ n, n = (dueQ lim L).length := ⟨_, rfl⟩
      rw [← hnd]
      have hnd1 : nd ≤ 1000 := by have := length_dueQ lim L; omega
      obtain ⟨W, hW⟩ : ∃ W, W = w4.alloc (.map #[] 0) := ⟨_, rfl⟩
      obtain ⟨ms, hms⟩ : ∃ b, b = w4.heap.size := ⟨_, rfl⟩
      have hbW : Below w4.heap.size w4 W := by rw [hW]; exact (Below.refl _ _).alloc (Nat.le_refl _) _
      have hmd : W.ownsMap Try.prog 9 (plainElem (H := Unit) Try.prog 4) ms 0 (.map []) := by rw [hW, hms]; exact World.ownsMap_made w4 Try.prog 9 (plainElem (H := Unit) Try.prog 4)
      have hwW : w4.heap.size ≤ W.heap.size := hbW.size
      have S0 := Lib.hid (show Sk w W b m s L mt i D H ms lim 0 0 (.map []) from ⟨(R0.out.below hb4).below hbW, hl4.later hbW, hmd, by have := (R0.out.below hb4).q.bel.size; omega, by
        have h1 := (R0.out.below hb4).q.q.lt
        have h2 := (R0.out.below hb4).q.q.ltm
        have h3 := (R0.out.below hb4).at'.lt
        omega, by simpa using seenK_nil, allTrue_nil⟩)
      have E := Lib.hid hnd
      have HW := Lib.hid (And.intro hW hms)
      have hmm := fun W => run_makeMap (P := Try.prog) 50 W
      clear hb4 hl4 hH hbW hW hms hmd hwW hnd R0
      go_wp2_with fail
      rw [← HW.out.1, ← HW.out.2]
      clear HW hmm
      go_loopw [67] (fun v67 wr => ∃ j : Nat, j ≤ nd ∧ v67 = .int .i64 (j : Int) ∧ Hid (∃ DS, Sk w wr b m s L mt i D H ms lim j j DS)) (fun s _ => nd - (intOf s).toNat)
      case atStart => exact ⟨0, Nat.zero_le _, rfl, Lib.hid ⟨_, S0.out⟩⟩
      case round =>
        clear S0
        obtain ⟨j, hj, rfl, RW⟩ := hrel
        by_cases hlt : j < nd
        · obtain ⟨DS, sk⟩ := RW.out
          obtain ⟨x, hx⟩ : ∃ x, (dueQ lim L)[j]? = some x := ⟨(dueQ lim L)[j]'(by have := E.out; omega), List.getElem?_eq_getElem _⟩
          have hxm := mem_dueQ.1 (List.mem_of_getElem? hx)
          have hkx := sk.og.q.q.kok x hxm.1
          have d0 := key_cell sk.due hx
          have la := (lookA sk.og.at' sk.og.rep hxm.1 hkx).1
          have lb := lookS sk.se sk.tr hkx
          rw [sk.fresh hx] at lb
          have hle : ¬ lim < x.2.1 := by have := hxm.2; omega
          have R := Lib.hid (And.intro sk (And.intro hx hkx))
          cases j with
          | zero =>
            clear sk hx hxm hkx RW
            go_wp2_with (at_mapUpdate; refine wpList_mapUpdate_own _ rfl _ _ _ 50 rfl 9 4 ks.keyed Try.underlying50 (plainElem (H := Unit) Try.prog 4) ms 0 DS rfl R.out.1.se (by unfold maxLen; omega) _ _ (ks.KL x.1) rfl rfl (ks.key_mk R.out.2.2) _ [] (plainElem_bool Try.underlying4 true) ?_; intro w6 ho6 hg6; have R6 := Lib.hid (R.out.1.put R.out.2.1 ho6 hg6); clear ho6 hg6)
            refine ⟨⟨1, by omega, by rfl, Lib.hid ⟨_, R6.out⟩⟩, ?_⟩
            simp [intOf]; omega
          | succ p =>
            obtain ⟨y, hy⟩ : ∃ y, (dueQ lim L)[p]? = some y := ⟨(dueQ lim L)[p]'(by have := E.out; omega), List.getElem?_eq_getElem _⟩
            have hym := (mem_dueQ.1 (List.mem_of_getElem? hy)).1
            have d1 := key_cell sk.due hy
            have lc := (lookA sk.og.at' sk.og.rep hym (sk.og.q.q.kok y hym)).2
            have hs : ¬ x.2.1 < y.2.1 := by have := due_step hy hx; omega
            have hp : (((p + 1 : Nat) : Int)) - 1 = (p : Int) := by omega
            have hp0 : (0 : Int) < ((p + 1 : Nat) : Int) := by omega
            clear sk hx hxm hkx hy hym RW
            generalize hq : p + 1 = q at *
            go_wp2_with (at_mapUpdate; refine wpList_mapUpdate_own _ rfl _ _ _ 50 rfl 9 4 ks.keyed Try.underlying50 (plainElem (H := Unit) Try.prog 4) ms q DS rfl R.out.1.se (by unfold maxLen; omega) _ _ (ks.KL x.1) rfl rfl (ks.key_mk R.out.2.2) _ [] (plainElem_bool Try.underlying4 true) ?_; intro w6 ho6 hg6; have R6 := Lib.hid (R.out.1.put R.out.2.1 ho6 hg6); clear ho6 hg6)
            refine ⟨⟨q + 1, by omega, by go_num, Lib.hid ⟨_, R6.out⟩⟩, ?_⟩
            simp [intOf]; omega
        · obtain rfl : j = nd := by omega
          obtain ⟨DS, sk⟩ := RW.out
          have R := Lib.hid sk
          clear sk RW
          go_wp2_with fail
          refine (next_uni R.out.og.q.q).mono ?_
          rintro e w5 ⟨⟨n, hn, rfl⟩, hb5⟩
          have R5 := Lib.hid (And.intro (R.out.below hb5) hn)
          obtain ⟨B, hB⟩ : ∃ B, B = !L.isEmpty := ⟨_, rfl⟩
          rw [← hB]
          have HB := Lib.hid hB
          clear hb5 hn hB R
          go_wp2_with (at_range; refine wpList_range_own _ rfl _ 49 rfl 9 2 ks.keyed Try.underlying49 (plainElem (H := Unit) Try.prog 2) mt i D rfl R5.out.1.og.at' ?_; intro w0 hrg0 hg0 hs0; have HG0 := Lib.hid (And.intro hrg0 (And.intro hg0 hs0)); clear hrg0 hg0 hs0)
          go_frame
          obtain ⟨wo, rfl⟩ : ∃ wo, wo = w5 := ⟨_, rfl⟩
          go_loopw [17] (fun _ wr => Hid (∃ left cnt, wr.ranges Try.prog 9 (plainElem (H := Unit) Try.prog 2) mt wo.heap.size i D left cnt ∧ Below wo.heap.size wo wr)) (fun _ wr => wr.rangeLeft mt wo.heap.size)
          case atStart => exact Lib.hid ⟨_, _, HG0.out.1, Below.grown (Below.refl _ _) HG0.out.2.1 (Nat.le_refl _) (by simp)⟩
          case round =>
            clear HG0
            obtain ⟨left, cnt, hrg, hbw⟩ := hrel.out
            have hms : wr.rangeLeft mt wo.heap.size = cnt := hrg.left_eq
            have hsz := hrg.lt
            have RB := Lib.hid hbw
            clear hrel hbw
            go_wp2_with (at_next; refine wpList_next_ranges _ rfl _ rfl 9 ks.keyed (plainElem (H := Unit) Try.prog 2) (fun x : ByteArray => .string x) (fun c : Int => .int .i64 c) ks.invK (fun v y hv => by obtain ⟨c, rfl, _⟩ := plainElem_int_inv Try.underlying2 hv; exact ⟨c, rfl⟩) mt wo.heap.size i D left cnt rfl hrg ?_ ?_)
            · intro _ _
              have R6 := Lib.hid (R5.out.1.below RB.out)
              clear hrg hms hsz
              have hml : ∀ ty, (Builtin.len_ #[49] ty #[.map (some mt)]).run Try.prog wr = .ok (.int .i64 (L.length : Int)) wr := fun ty => by
                have := R6.out.og.at'.len Try.underlying49 ty
                rwa [R6.out.og.rep.size] at this
              by_cases hL : L = []
              · subst hL
                have hB : B = false := by rw [HB.out]; rfl
                subst hB
                simp only [List.length_nil] at hml
                go_wp2
                go_ret
                exact ⟨rfl, R6.out.og.q.bel⟩
              · have hB : B = true := by
                  rw [HB.out]
                  cases L with
                  | nil => exact absurd rfl hL
                  | cons _ _ => rfl
                subst hB
                obtain ⟨nl, hnl⟩ : ∃ n, n = L.length := ⟨_, rfl⟩
                have hl0 : 0 < nl := by rw [hnl]; exact List.length_pos_iff.2 hL
                rw [← hnl] at hml
                have hN : IsNext L n := by
                  rcases R5.out.2 with ⟨h1, _⟩ | ⟨_, h2⟩
                  · exact absurd h1 hL
                  · exact h2
                have HN := Lib.hid hN
                clear hnl hN hL
                by_cases hj0 : j = 0
                · have hlt : lim < n := due_none HN.out (List.eq_nil_of_length_eq_zero (by have := E.out; omega))
                  subst hj0
                  go_wp2
                  go_ret
                  exact ⟨rfl, R6.out.og.q.bel⟩
                · obtain ⟨y, hy⟩ : ∃ y, (dueQ lim L)[0]? = some y := ⟨(dueQ lim L)[0]'(by have := E.out; omega), List.getElem?_eq_getElem _⟩
                  have hym := (mem_dueQ.1 (List.mem_of_getElem? hy)).1
                  have d0 := key_cell R6.out.due hy
                  have lc := (lookA R6.out.og.at' R6.out.og.rep hym (R6.out.og.q.q.kok y hym)).2
                  rw [due_first HN.out hy] at lc
                  have hj1 : 0 < j := by omega
                  clear hy hym
                  go_wp2
                  go_ret
                  exact ⟨rfl, R6.out.og.q.bel⟩
            · intro x c kl yd yp w6 cnt2 hkey hlk hv hat hrg2 hlt2 hg2 hs2 hen
              obtain ⟨e, he, rfl, rfl⟩ := came_a R5.out.1.og.rep hkey hv hat
              have hb6 : Below wo.heap.size wo w6 := Below.grown RB.out hg2 (by omega) (by simp)
              have hN : IsNext L n := by
                rcases R5.out.2 with ⟨h1, _⟩ | ⟨_, h2⟩
                · subst h1; cases he
                · exact h2
              have hlo : ¬ e.2.1 < n := by have := hN.2 e he; omega
              have hrg2' := Lib.hid hrg2
              have hM := Lib.hid (And.intro hb6 hlt2)
              have sk6 := R5.out.1.below hb6
              by_cases hle : e.2.1 ≤ lim
              · have ls := lookS sk6.se sk6.tr (sk6.og.q.q.kok e he)
                rw [sk6.all (by have := E.out; omega) he hle] at ls
                clear hkey hlk hv hat hrg2 hlt2 hg2 hs2 hb6 hN sk6 he hrg hsz
                go_wp2
                refine ⟨Lib.hid ⟨_, _, hrg2'.out, hM.out.1⟩, ?_⟩
                rw [hrg2'.out.left_eq, hms]
                exact hM.out.2
              · clear hkey hlk hv hat hrg2 hlt2 hg2 hs2 hb6 hN sk6 he hrg hsz
                go_wp2
                refine ⟨Lib.hid ⟨_, _, hrg2'.out, hM.out.1⟩, ?_⟩
                rw [hrg2'.out.left_eq, hms]
                exact hM.out.2
end Go.Proofs.Ytebdhleggbccdaa
