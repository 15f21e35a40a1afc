/- WakeAgain's walk. -/
import Derived.Test.YtebdhleggbccdaaQuI
import Derived.Test.YtebdhleggbccdaaAlive
import Derived.Test.YtebdhleggbccdaaArgs
import Derived.Test.YtebdhleggbccdaaSe
import Derived.BigQuiet
namespace Go.Proofs.Ytebdhleggbccdaa
open Go.RowKit Go.Maps

theorem i64_wf {c : Int} (h1 : -9223372036854775808 ≤ c) (h2 : c ≤ 9223372036854775807) : (Lit.int .i64 c).wf = true := by
  simp [Lit.wf, IntKind.min, IntKind.max, IntKind.signed, IntKind.bits]; omega
theorem bounds_i16' {x : Int} (h : (Lit.int .i16 x).wf = true) : -32768 ≤ x ∧ x ≤ 32767 := by
  simp [Lit.wf, IntKind.min, IntKind.max, IntKind.signed, IntKind.bits] at h; omega
theorem below_drewN' {B : Nat} {a w : World} (h : Below B a w) (q : Nat) : Below B a (w.drewN q) := ⟨h.os, h.tape, h.output, h.size, h.block⟩
abbrev Eni := En Int
theorem take_snoc' {α : Type} {l : List α} {i : Nat} {x : α} (h : l[i]? = some x) : l.take (i + 1) = l.take i ++ [x] := by rw [List.take_add_one, h]; rfl
/-- Two queues of numbers and a set of the walk's own. -/
structure Ag (w wi : World) (ba ma sa : Nat) (La : List Eni) (bb mb sb : Nat) (Lb : List Eni) (ms n : Nat) (D : DataW Unit) : Prop where
  qa : ki.Q wi w.heap.size ba ma sa La
  qb : ki.Q wi w.heap.size bb mb sb Lb
  se : wi.ownsMap Try.prog 2 (plainElem Try.prog 4) ms n D
  own : w.heap.size ≤ ms
  bel : Below w.heap.size w wi
/-- Their blocks are six. -/
def Six (ba ma bb mb ms : Nat) : Prop := ba ≠ bb ∧ ba ≠ mb ∧ ma ≠ bb ∧ ma ≠ mb ∧ ms ≠ ba ∧ ms ≠ ma ∧ ms ≠ bb ∧ ms ≠ mb
section
variable {w wi wj : World} {ba ma sa ta bb mb sb tb ms n n' : Nat} {La La' Lb Lb' : List Eni} {D D' : DataW Unit}
theorem Ag.below (h : Ag w wi ba ma sa La bb mb sb Lb ms n D) (hb : Below wi.heap.size wi wj) : Ag w wj ba ma sa La bb mb sb Lb ms n D := by
  refine ⟨h.qa.below hb (Nat.le_refl _), h.qb.below hb (Nat.le_refl _), ?_, h.own, bel_trans h.bel hb⟩
  have hl := h.se.lt
  obtain ⟨es, c, h0, rest⟩ := h.se
  exact ⟨es, c, (hb.block ms hl).trans h0, rest⟩
theorem own_two_map {b m : Nat} (h : wi.ownsMap Try.prog 2 (plainElem Try.prog 4) ms n D) (g : Two b (some m) wi wj) (h1 : ms ≠ b) (h2 : ms ≠ m) : wj.ownsMap Try.prog 2 (plainElem Try.prog 4) ms n D := by
  have hl := h.lt
  obtain ⟨es, c, h0, rest⟩ := h
  exact ⟨es, c, (g.block ms hl h1 (fun e => h2 (by injection e))).trans h0, rest⟩
theorem Ag.wrote_a (h : Ag w wi ba ma sa La bb mb sb Lb ms n D) (s : Six ba ma bb mb ms) (hq : ki.Q wj w.heap.size ba ma ta La') (g : Two ba (some ma) wi wj) : Ag w wj ba ma ta La' bb mb sb Lb ms n D := by
  obtain ⟨s1, s2, s3, s4, s5, s6, s7, s8⟩ := s
  exact ⟨hq, h.qb.two g s1.symm (fun e => s3 (by injection e)) s2.symm (fun e => s4 (by injection e)), own_two_map h.se g s5 s6, h.own, h.bel.trans (g.below h.bel.size h.qa.own (fun j hj => by injection hj with hj; have := h.qa.own'; omega))⟩
theorem Ag.wrote_b (h : Ag w wi ba ma sa La bb mb sb Lb ms n D) (s : Six ba ma bb mb ms) (hq : ki.Q wj w.heap.size bb mb tb Lb') (g : Two bb (some mb) wi wj) : Ag w wj ba ma sa La bb mb tb Lb' ms n D := by
  obtain ⟨s1, s2, s3, s4, s5, s6, s7, s8⟩ := s
  exact ⟨h.qa.two g s1 (fun e => s2 (by injection e with e; exact e.symm)) s3 (fun e => s4 (by injection e with e; exact e.symm)), hq, own_two_map h.se g s7 s8, h.own, h.bel.trans (g.below h.bel.size h.qb.own (fun j hj => by injection hj with hj; have := h.qb.own'; omega))⟩
theorem Ag.wrote_s (h : Ag w wi ba ma sa La bb mb sb Lb ms n D) (s : Six ba ma bb mb ms) (hs : wj.ownsMap Try.prog 2 (plainElem Try.prog 4) ms n' D') (g : wi.grownBy wj (some ms)) : Ag w wj ba ma sa La bb mb sb Lb ms n' D' := by
  obtain ⟨s1, s2, s3, s4, s5, s6, s7, s8⟩ := s
  have t : Two ms none wi wj := ⟨g.os, g.tape, g.output, g.size, fun j hj hn _ => g.block j hj (fun e => hn (by injection e))⟩
  exact ⟨h.qa.two t s5.symm (by simp) s6.symm (by simp), h.qb.two t s7.symm (by simp) s8.symm (by simp), hs, h.own, h.bel.trans (t.below h.bel.size h.own (by simp))⟩
end

set_option maxRecDepth 100000 in
set_option maxHeartbeats 2000000 in
theorem walk_again (A : Option Addr) (len cap : Nat) (lim : Int) (w : World) (hz : IntsIn .i16 w A len cap) (hh1 : -32768 ≤ lim) (hh2 : lim ≤ 32767) :
    Calls Try.prog 6 #[.slice A len cap, .int .i16 lim] w fun e w' => e = .returned (.bool true) ∧ Below w.heap.size w w' := by
  obtain ⟨hlc, hcm, zs, hzl, hwf, hcell⟩ := hz
  have l2 : cap ≤ 9223372036854775807 := by unfold maxLen at hcm; omega
  have hbd : ∀ i x, zs[i]? = some x → -32768 ≤ x ∧ x ≤ 32767 := fun i x hx => bounds_i16' (hwf x (List.mem_of_getElem? hx))
  have Z := Lib.hid (And.intro hzl (And.intro hbd hcell))
  clear hzl hwf hcell hbd
  go_enter Try.func6, Try.ntmps6
  go_wp2_with fail
  refine (ki.new_any _).mono ?_
  rintro e w1 ⟨rfl, hq1, hb1⟩
  obtain ⟨ba, eb1⟩ : ∃ b, b = w.heap.size + 1 := ⟨_, rfl⟩
  obtain ⟨ma, em1⟩ : ∃ m, m = w.heap.size := ⟨_, rfl⟩
  have R1 := Lib.hid (And.intro (show ki.Q w1 w.heap.size ba ma 0 [] by rw [eb1, em1]; exact hq1) hb1)
  rw [← eb1]
  clear hq1 hb1 eb1 em1
  go_wp2_with fail
  refine (ki.new_any _).mono ?_
  rintro e w2 ⟨rfl, hq2, hb2⟩
  obtain ⟨bb, eb2⟩ : ∃ b, b = w1.heap.size + 1 := ⟨_, rfl⟩
  obtain ⟨mb, em2⟩ : ∃ m, m = w1.heap.size := ⟨_, rfl⟩
  have hq2' : ki.Q w2 w.heap.size bb mb 0 [] := by
    rw [eb2, em2]
    have := R1.out.2.size
    exact ⟨hq2.blk, hq2.map, hq2.ok, hq2.kok, by omega, by omega⟩
  have R2 := Lib.hid (And.intro (R1.out.1.below hb2 (Nat.le_refl _)) (And.intro hq2' (bel_trans R1.out.2 hb2)))
  have N := Lib.hid (show ba ≠ bb ∧ ba ≠ mb ∧ ma ≠ bb ∧ ma ≠ mb by have := R1.out.1.lt; have := R1.out.1.ltm; omega)
  rw [← eb2]
  clear hq2 hq2' hb2 eb2 em2 R1
  go_wp2_with fail
  refine (alive_any _).mono ?_
  rintro e w3 ⟨rfl, hb3⟩
  have R3 := Lib.hid (And.intro (R2.out.1.below hb3 (Nat.le_refl _)) (And.intro (R2.out.2.1.below hb3 (Nat.le_refl _)) (bel_trans R2.out.2.2 hb3)))
  clear hb3 R2
  by_cases hlen : 100 < len
  · go_wp2_with fail
    refine (alive_any _).mono ?_
    rintro e w4 ⟨rfl, hb4⟩
    have R4 := Lib.hid (bel_trans R3.out.2.2 hb4)
    clear hb4 R3
    go_wp2
    go_ret
    exact ⟨rfl, R4.out⟩
  obtain ⟨W, hW⟩ : ∃ W, W = w3.alloc (.map #[] 0) := ⟨_, rfl⟩
  obtain ⟨ms, hms⟩ : ∃ b, b = w3.heap.size := ⟨_, rfl⟩
  have hbW : Below w3.heap.size w3 W := by rw [hW]; exact (Below.refl _ _).alloc (Nat.le_refl _) _
  have hmd : W.ownsMap Try.prog 2 (plainElem (H := Unit) Try.prog 4) ms 0 (.map []) := by rw [hW, hms]; exact World.ownsMap_made w3 Try.prog 2 (plainElem (H := Unit) Try.prog 4)
  have S0 := Lib.hid (show Ag w W ba ma 0 [] bb mb 0 [] ms 0 (.map []) from ⟨R3.out.1.below hbW (Nat.le_refl _), R3.out.2.1.below hbW (Nat.le_refl _), hmd, by rw [hms]; exact R3.out.2.2.size, bel_trans R3.out.2.2 hbW⟩)
  have SX := Lib.hid (show Six ba ma bb mb ms by
    have h1 := R3.out.1.lt; have h2 := R3.out.1.ltm; have h3 := R3.out.2.1.lt; have h4 := R3.out.2.1.ltm; have h5 := N.out
    unfold Six; omega)
  have HW := Lib.hid (And.intro hW hms)
  have hmm := fun W => run_makeMap (P := Try.prog) 53 W
  clear hbW hW hms hmd R3 N
  go_wp2_with fail
  rw [← HW.out.1, ← HW.out.2]
  clear HW hmm
  go_loopw [36] (fun v36 wr => ∃ i : Nat, i ≤ len ∧ v36 = .int .i64 (i : Int) ∧ Hid (∃ sa La D, sa ≤ 2 * i ∧ Ag w wr ba ma sa La bb mb 0 [] ms i D ∧ Selves La (zs.take i) ∧ SeenOf ki.KL D La)) (fun s _ => len - (intOf s).toNat)
  case atStart => exact ⟨0, Nat.zero_le _, rfl, Lib.hid ⟨0, [], _, Nat.le_refl _, S0.out, selves_nil, seenOf_nil⟩⟩
  case round =>
    clear S0
    obtain ⟨i, hi, rfl, RW⟩ := hrel
    by_cases hlt : i < len
    · obtain ⟨sa, La, D, hsa, ag, hsv, hsn⟩ := RW.out
      obtain ⟨x, hx⟩ : ∃ x, zs[i]? = some x := ⟨zs[i]'(by have := Z.out.1; omega), List.getElem?_eq_getElem _⟩
      obtain ⟨x1, x2⟩ := Z.out.2.1 i x hx
      obtain ⟨g, o, rfl, hg, hc⟩ := Z.out.2.2 (by omega)
      have cx : wr.cell? ⟨g, o + i, none⟩ = some (.int .i16 x) := (ag.bel.cell (p := ⟨g, _, none⟩) hg).trans (hc i x hx)
      have R0 := Lib.hid (And.intro ag (And.intro hsv (And.intro hsn (take_snoc' hx))))
      have hkx := Lib.hid (show ki.KOk x from i64_wf (by omega) (by omega))
      have wx : IntKind.i64.wrap x = x := by simp [IntKind.wrap, IntKind.bits, IntKind.signed]; omega
      clear hg hc hx ag hsv hsn RW
      go_wp2_with fail
      refine (ki.set_any R0.out.1.qa hkx.out (i64_wf (c := (i : Int)) (by omega) (by omega)) (by omega)).mono ?_
      rintro e w4 ⟨rfl, hq4, t4⟩
      have R4 := Lib.hid (R0.out.1.wrote_a SX.out hq4 t4)
      have HT := Lib.hid (show SeenOf ki.KL (D.put (ki.KL x) (.lit (.bool true))) (putQ x (i : Int) ((sa + 1 : Nat) : Int) La) from R0.out.2.2.1.put ki.KL_inj R0.out.1.qa.ok (R0.out.1.se.tidy ki.keyed) (ki.KL_key hkx.out) _ _ _)
      clear hq4 t4 cx
      go_wp2_with fail
      refine (ki.set_any R4.out.qa hkx.out hkx.out (by omega)).mono ?_
      rintro e w5 ⟨rfl, hq5, t5⟩
      have R5 := Lib.hid (R4.out.wrote_a SX.out hq5 t5)
      have HT5 := Lib.hid (HT.out.again R4.out.qa.ok ⟨(x, (i : Int), ((sa + 1 : Nat) : Int)), by simp [putQ], rfl⟩ x ((sa + 1 + 1 : Nat) : Int))
      clear hq5 t5 HT R4
      go_wp2_with (at_mapUpdate; refine wpList_mapUpdate_own _ rfl _ _ _ 53 rfl 2 4 ki.keyed Try.underlying53 (plainElem (H := Unit) Try.prog 4) ms i D rfl R5.out.se (by unfold maxLen; omega) _ _ (ki.KL x) rfl rfl (ki.key_mk hkx.out) _ [] (plainElem_bool Try.underlying4 true) ?_; intro w6 ho6 hg6; have R6 := Lib.hid (R5.out.wrote_s SX.out ho6 hg6); clear ho6 hg6)
      refine ⟨⟨i + 1, by omega, by go_num, Lib.hid ⟨sa + 1 + 1, _, _, by omega, R6.out, R0.out.2.1.twice (fun y => by rw [R0.out.2.2.2]; simp), HT5.out⟩⟩, ?_⟩
      simp [intOf]; omega
    · obtain rfl : i = len := by omega
      obtain ⟨sa, La, D, hsa, ag, hsv, hsn⟩ := RW.out
      rw [List.take_of_length_le (by have := Z.out.1; omega)] at hsv
      have R0 := Lib.hid (And.intro ag (And.intro hsv hsn))
      clear ag hsv hsn RW
      obtain ⟨wo, rfl⟩ : ∃ wo, wo = wr := ⟨_, rfl⟩
      go_wp2
      go_loopw [58] (fun v58 wr => ∃ j : Nat, j ≤ i ∧ v58 = .int .i64 (j : Int) ∧ Hid (∃ sb Lb, sb ≤ j ∧ Ag w wr ba ma sa La bb mb sb Lb ms i D ∧ Selves Lb (zs.drop (i - j)))) (fun s _ => i - (intOf s).toNat)
      case atStart => exact ⟨0, Nat.zero_le _, rfl, Lib.hid ⟨0, [], Nat.le_refl _, R0.out.1, by rw [List.drop_eq_nil_of_le (by have := Z.out.1; omega)]; exact selves_nil⟩⟩
      case round =>
        obtain ⟨j, hj, rfl, RW⟩ := hrel
        by_cases hlt : j < i
        · obtain ⟨sb, Lb, hsb, ag, hsv⟩ := RW.out
          obtain ⟨r, hr⟩ : ∃ r, r = i - 1 - j := ⟨_, rfl⟩
          have er : (i : Int) - 1 - (j : Int) = (r : Int) := by omega
          have hri : r < i := by omega
          obtain ⟨x, hx⟩ : ∃ x, zs[r]? = some x := ⟨zs[r]'(by have := Z.out.1; omega), List.getElem?_eq_getElem _⟩
          obtain ⟨x1, x2⟩ := Z.out.2.1 r x hx
          obtain ⟨g, o, rfl, hg, hc⟩ := Z.out.2.2 (by omega)
          have cx : wr.cell? ⟨g, o + r, none⟩ = some (.int .i16 x) := (ag.bel.cell (p := ⟨g, _, none⟩) hg).trans (hc r x hx)
          have HD := Lib.hid (show zs.drop (i - (j + 1)) = x :: zs.drop (i - j) by
            obtain ⟨h1, h2⟩ := List.getElem?_eq_some_iff.1 hx
            rw [show i - (j + 1) = r by omega, List.drop_eq_getElem_cons h1, h2, show r + 1 = i - j by omega])
          have R1 := Lib.hid (And.intro ag hsv)
          have hkx := Lib.hid (show ki.KOk x from i64_wf (by omega) (by omega))
          have wx : IntKind.i64.wrap x = x := by simp [IntKind.wrap, IntKind.bits, IntKind.signed]; omega
          clear hg hc hx ag hsv RW hr
          go_wp2_with fail
          refine (ki.set_any R1.out.1.qb hkx.out hkx.out (by omega)).mono ?_
          rintro e w4 ⟨rfl, hq4, t4⟩
          have R4 := Lib.hid (R1.out.1.wrote_b SX.out hq4 t4)
          clear hq4 t4 cx er
          go_wp2
          refine ⟨⟨j + 1, by omega, by go_num, Lib.hid ⟨sb + 1, _, by omega, R4.out, R1.out.2.put (fun y => by rw [HD.out]; simp [or_comm])⟩⟩, ?_⟩
          simp [intOf]; omega
        · obtain rfl : j = i := by omega
          obtain ⟨sb, Lb, hsb, ag, hsv⟩ := RW.out
          rw [Nat.sub_self, List.drop_zero] at hsv
          have hll := hsv.len ag.qb.ok R0.out.2.1 ag.qa.ok (fun y => Iff.rfl)
          have hdd := R0.out.2.1.due ag.qa.ok hsv ag.qb.ok (fun y => Iff.rfl) lim
          obtain ⟨nl, hnl⟩ : ∃ n, n = La.length := ⟨_, rfl⟩
          obtain ⟨nd, hnd⟩ : ∃ n, n = (dueQ lim La).length := ⟨_, rfl⟩
          have hl1 : nl ≤ 1000 := by have := ag.qa.size_le; omega
          have hd1 : nd ≤ 1000 := by have := length_dueQ lim La; omega
          have hnd2 : nd = (dueQ lim Lb).length := by rw [hnd]; simpa using congrArg List.length hdd
          have E := Lib.hid (And.intro hnl (And.intro hnd (And.intro hnd2 (And.intro (hnl.trans hll.symm) hdd))))
          have hsz := Lib.hid R0.out.2.2.size
          have R6 := Lib.hid R0.out.2.1
          have R1 := Lib.hid ag
          clear hnl hnd hnd2 hll hdd ag hsv RW R0
          have wl : IntKind.i64.wrap lim = lim := by simp [IntKind.wrap, IntKind.bits, IntKind.signed]; omega
          go_wp2_with fail
          refine (ki.due_any R1.out.qa (by have := E.out.1; omega) lim).mono ?_
          rintro e w4 ⟨H1, rfl, hH1, hl4, hb4⟩
          rw [← E.out.2.1]
          have R4 := Lib.hid (And.intro (R1.out.below hb4) hl4)
          clear hH1 hl4 hb4 R1
          go_wp2_with fail
          refine (ki.due_any R4.out.1.qb (by have := E.out.2.2.2.1; omega) lim).mono ?_
          rintro e w5 ⟨H2, rfl, hH2, hl5, hb5⟩
          rw [← E.out.2.2.1]
          have R5 := Lib.hid (And.intro (R4.out.1.below hb5) (And.intro (R4.out.2.later hb5) hl5))
          clear hH2 hl5 hb5 R4
          go_wp2_with fail
          refine (ki.len_any R5.out.1.qa).mono ?_
          rintro e w6 ⟨rfl, rfl⟩
          rw [← E.out.1]
          have hml : ∀ ty, (Builtin.len_ #[53] ty #[.map (some ms)]).run Try.prog w6 = .ok (.int .i64 (nl : Int)) w6 := fun ty => by
            have := R5.out.1.se.len Try.underlying53 ty
            rwa [hsz.out, ← E.out.1] at this
          go_wp2_with fail
          refine (ki.len_any R5.out.1.qb).mono ?_
          rintro e w7 ⟨rfl, rfl⟩
          rw [← E.out.2.2.2.1]
          go_wp2
          clear hml
          obtain ⟨wo, rfl⟩ : ∃ wo, wo = w7 := ⟨_, rfl⟩
          go_loopw [104] (fun v104 wr => ∃ k : Nat, k ≤ nd ∧ v104 = .int .i64 (k : Int) ∧ Hid (Below wo.heap.size wo wr)) (fun s _ => nd - (intOf s).toNat)
          case atStart => exact ⟨0, Nat.zero_le _, rfl, Lib.hid (Below.refl _ _)⟩
          case round =>
            obtain ⟨k, hk, rfl, RB⟩ := hrel
            by_cases hlt : k < nd
            · obtain ⟨y, hy⟩ : ∃ y, (dueQ lim La)[k]? = some y := ⟨(dueQ lim La)[k]'(by have := E.out.2.1; omega), List.getElem?_eq_getElem _⟩
              have hyl := (mem_dueQ.1 (List.mem_of_getElem? hy)).2
              have hys : y.2.1 = y.1 := (R6.out.1 y (mem_dueQ.1 (List.mem_of_getElem? hy)).1).1
              have k1 : (ki.keysOf (dueQ lim La))[k]? = some (.int .i64 y.1) := by rw [ki.keysOf, List.getElem?_map, hy]; rfl
              have k2 : (ki.keysOf (dueQ lim Lb))[k]? = some (.int .i64 y.1) := by
                have e2 : ki.keysOf (dueQ lim Lb) = ((dueQ lim Lb).map (·.1)).map (fun x => Value.int .i64 x) := by rw [List.map_map]; rfl
                rw [e2, ← E.out.2.2.2.2, List.map_map, List.getElem?_map, hy]
                rfl
              obtain ⟨g1, o1, e1, _, hc1⟩ := (R5.out.2.1.later RB.out).open (by have := (List.getElem?_eq_some_iff.1 k1).1; omega)
              obtain ⟨g2, o2, e2, _, hc2⟩ := (R5.out.2.2.later RB.out).open (by have := (List.getElem?_eq_some_iff.1 k2).1; omega)
              injection e1 with e1
              injection e1 with e1 e1' _
              subst e1 e1'
              injection e2 with e2
              injection e2 with e2 e2' _
              subst e2 e2'
              have d1 : wr.cell? ⟨H1, k, none⟩ = some (.int .i64 y.1) := by simpa using hc1 k _ k1
              have d2 : wr.cell? ⟨H2, k, none⟩ = some (.int .i64 y.1) := by simpa using hc2 k _ k2
              have hnl' : ¬ lim < y.1 := by omega
              clear hc1 hc2 hy k1 k2 hys hyl
              go_wp2_with fail
              go_quiet (fail)
              go_wp2
              exact ⟨⟨k + 1, by omega, by go_num, Lib.hid (below_drewN' RB.out _)⟩, by simp [intOf]; omega⟩
            · obtain rfl : k = nd := by omega
              go_wp2
              go_ret
              exact ⟨rfl, bel_trans R5.out.1.bel RB.out⟩
end Go.Proofs.Ytebdhleggbccdaa
