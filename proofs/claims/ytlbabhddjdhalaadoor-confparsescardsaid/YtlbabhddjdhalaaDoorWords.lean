/- The map of words. -/
import Derived.Test.YtlbabhddjdhalaaDoorSets4
import Derived.Maps.OwnSet
namespace Go.Proofs.YtlbabhddjdhalaaDoor
open Go.RowKit Go.Proofs.Lx Go.Maps Go.WideMaps

theorem wpList_insert_own {H : Type} {P : Program} (w : World) {ops : Array Oper} {rest : List Oper} {o : Oper} {a : Act} {Q : Exit → Act → World → Prop}
    (hg : o.guard = none) (m x v : Operand) (t : TypeId) (hop : o.op = Op.insert t m x v)
    (k e : TypeId) (K : Keyed P k) (ht : P.underlying t = some (.map k e)) (R : Value → Option (DataW H × List MemPlace)) (b n : Nat) (D : DataW H)
    (hm : a.eval m = .map (some b)) (hown : w.ownsMap P k R b n D) (hn : n < maxLen) (key val : Value) (kl : Lit) (hx : a.eval x = key) (hv : a.eval v = val) (hkey : keyOf P k key = some kl)
    (d : DataW H) (ps : List MemPlace) (hval : R val = some (d, ps))
    (hK : ∀ w', w'.ownsMap P k R b (n + 1) (D.put kl d) → w.grownBy w' (some b) → wpList P ops Q rest (a.put o.dst undef) w') :
    wpList P ops Q (o :: rest) a w := by
  refine wpList_plain hg fun K' hK' => ?_
  obtain ⟨w', hrun, r1, r2⟩ := hown.update K ht hn hkey hval
  unfold Oper.wp
  simp [execOp, hop, hm, hx, hv, hrun, Result.andThen]
  exact hK' _ _ (hK w' r1 r2)

theorem law9 : Keyed Tryd.prog 9 := string_keyed Tryd.underlying9
/-- How a function in the map reads: as it is. -/
def fR (v : Value) : Option (DataW Value × List MemPlace) := some (.held v, [])
def Bx (w : World) (lo q : Nat) (x : Value) : Prop := lo ≤ q ∧ w.cell? ⟨q, 0, none⟩ = some x
theorem Bx.lt {w : World} {lo q : Nat} {x : Value} (h : Bx w lo q x) : q < w.heap.size := World.block_lt_of_cell? _ _ h.2
theorem Bx.of {w w' : World} {lo q : Nat} {x : Value} (h : Bx w lo q x) (he : w'.heap[q]? = w.heap[q]?) : Bx w' lo q x := ⟨h.1, (World.cell?_of_block (a := ⟨q, 0, none⟩) he).trans h.2⟩
theorem Bx.below {w w' : World} {lo q B : Nat} {x : Value} (h : Bx w lo q x) (hb : Below B w w') (hB : w.heap.size ≤ B) : Bx w' lo q x := h.of (hb.block q (by have := h.lt; omega))
theorem Bx.map {w : World} {lo q b : Nat} {x : Value} {H : Type} {P : Program} {k : TypeId} {R : Value → Option (DataW H × List MemPlace)} {n : Nat} {D : DataW H} (h : Bx w lo q x) (hm : w.ownsMap P k R b n D) : q ≠ b := fun e => by
  obtain ⟨es, cl, hb, _⟩ := hm
  have := h.2
  subst e
  simp [World.cell?, hb] at this
theorem Bx.grown {w w' : World} {lo q b : Nat} {x : Value} {H : Type} {P : Program} {k : TypeId} {R : Value → Option (DataW H × List MemPlace)} {n : Nat} {D : DataW H} (h : Bx w lo q x) (hm : w.ownsMap P k R b n D) (hg : w.grownBy w' (some b)) : Bx w' lo q x :=
  h.of (hg.block q h.lt (fun e => h.map hm (by injection e)))
theorem Bx.up {w : World} {lo lo' q : Nat} {x : Value} (h : Bx w lo q x) (hl : lo' ≤ lo) : Bx w lo' q x := ⟨Nat.le_trans hl h.1, h.2⟩

set_option maxRecDepth 100000 in
set_option maxHeartbeats 1000000 in
theorem once_any (n : Int) (f : Fn) (cap : Array Value) (w : World) :
    Calls Tryd.prog 51 #[.int .i64 n, .func f #[] cap] w fun e w' => ∃ q1 q2, e = .returned (.func (.func 68) #[] #[.pointer (some ⟨q1, 0, none⟩), .pointer (some ⟨q2, 0, none⟩)]) ∧ Bx w' w.heap.size q1 (.int .i64 n) ∧ Bx w' w.heap.size q2 (.func f #[] cap) ∧ Below w.heap.size w w' := by
  go_enter Tryd.func51, Tryd.ntmps51
  go_wp2
  go_ret
  refine ⟨_, _, rfl, ⟨Nat.le_refl _, by simp⟩, ⟨by simp, by simp⟩, ((Below.refl _ _).alloc (Nat.le_refl _) _).alloc (by simp) _⟩

def ptr (b : Nat) : Value := .pointer (some ⟨b, 0, none⟩)
def fS (bx : Nat) : Value := .func (.func 48) #[] #[ptr bx]
def fO (q1 q2 : Nat) : Value := .func (.func 68) #[] #[ptr q1, ptr q2]
def fW (fn bx : Nat) : Value := .func (.func fn) #[] #[ptr bx]
def D5 (bx q1 q2 p1 p2 d1 d2 s1 s2 : Nat) : DataW Value :=
  (((((DataW.map []).put (.string wServer) (.held (fS bx))).put (.string wQuorum) (.held (fO q1 q2))).put (.string wPoll) (.held (fO p1 p2))).put (.string wDelay) (.held (fO d1 d2))).put (.string wSlew) (.held (fO s1 s2))
/-- The map of words lies in block bm: what each does it does to the config in bc. -/
def Words (w : World) (lo bc bm : Nat) : Prop := ∃ bx q1 q2 p1 p2 d1 d2 s1 s2, lo ≤ bm ∧ Bx w lo bx (ptr bc) ∧ Bx w lo q1 (.int .i64 1) ∧ Bx w lo q2 (fW 52 bx) ∧ Bx w lo p1 (.int .i64 2) ∧ Bx w lo p2 (fW 53 bx) ∧ Bx w lo d1 (.int .i64 1) ∧ Bx w lo d2 (fW 54 bx) ∧ Bx w lo s1 (.int .i64 1) ∧ Bx w lo s2 (fW 55 bx) ∧ w.ownsMap Tryd.prog 9 fR bm 5 (D5 bx q1 q2 p1 p2 d1 d2 s1 s2)

theorem map_below {w w' : World} {H : Type} {P : Program} {k : TypeId} {R : Value → Option (DataW H × List MemPlace)} {b n : Nat} {D : DataW H} (h : w.ownsMap P k R b n D) (hb : Below w.heap.size w w') : w'.ownsMap P k R b n D :=
  h.kept (grown_of_below hb (Nat.le_refl _) none) (by simp)

set_option maxRecDepth 100000 in
set_option maxHeartbeats 2000000 in
theorem wordsOf_any (bc : Nat) (w : World) :
    Calls Tryd.prog 33 #[.pointer (some ⟨bc, 0, none⟩)] w fun e w' => ∃ bm, e = .returned (.map (some bm)) ∧ Words w' w.heap.size bc bm ∧ Below w.heap.size w w' := by
  have key (l : Bs) (h : l.length ≤ 100) : keyOf Tryd.prog 9 (.string ⟨l.toArray⟩) = some (.string l) := by
    simpa using keyOf_string_mk (P := Tryd.prog) Tryd.underlying9 (s := ⟨l.toArray⟩) (by simp [ByteArray.size, maxLen]; omega)
  have k1 := Lib.hid (key wServer (by decide))
  have k2 := Lib.hid (key wQuorum (by decide))
  have k3 := Lib.hid (key wPoll (by decide))
  have k4 := Lib.hid (key wDelay (by decide))
  have k5 := Lib.hid (key wSlew (by decide))
  clear key
  obtain ⟨wA, hwA⟩ : ∃ wA, wA = (w.alloc (.cells #[.pointer (some ⟨bc, 0, none⟩)] 66)).alloc (.map #[] 0) := ⟨_, rfl⟩
  have HM0 : Hid (wA.ownsMap Tryd.prog 9 fR (w.heap.size + 1) 0 (.map [])) := by
    rw [hwA]
    have := World.ownsMap_made (w.alloc (.cells #[.pointer (some ⟨bc, 0, none⟩)] 66)) Tryd.prog 9 fR
    rw [World.size_alloc] at this
    exact this
  have HX0 : Hid (Bx wA w.heap.size w.heap.size (ptr bc)) := by
    rw [hwA]
    exact ⟨Nat.le_refl _, by simp; rfl⟩
  have HB0 : Hid (Below w.heap.size w wA) := by
    rw [hwA]
    exact ((Below.refl _ _).alloc (Nat.le_refl _) _).alloc (by simp) _
  have hmm := @run_makeMap Tryd.prog
  have hmf : ∀ (fn : Fn) (first cap : Array Value) (u : World), (Instr.makeFunc fn first cap).run Tryd.prog u = .ok (.func fn first cap) u := fun _ _ _ _ => rfl
  go_enter Tryd.func33, Tryd.ntmps33
  go_wp2_with (first
    | (refine wpList_insert_own _ rfl _ _ _ 64 rfl 9 71 law9 Tryd.underlying64 fR (w.heap.size + 1) 4 _ rfl HMd.out (by decide) _ _ (.string wSlew) rfl rfl k5.out _ [] rfl ?_; intro w5 hm5 hg5; have HM5 := Lib.hid hm5; have HX5 := Lib.hid (HXd.out.grown HMd.out hg5); have HQ51 := Lib.hid (HQd1.out.grown HMd.out hg5); have HQ52 := Lib.hid (HQd2.out.grown HMd.out hg5); have HP51 := Lib.hid (HPd1.out.grown HMd.out hg5); have HP52 := Lib.hid (HPd2.out.grown HMd.out hg5); have HD51 := Lib.hid (HDd1.out.grown HMd.out hg5); have HD52 := Lib.hid (HDd2.out.grown HMd.out hg5); have HS51 := Lib.hid (HSd1.out.grown HMd.out hg5); have HS52 := Lib.hid (HSd2.out.grown HMd.out hg5); have HB5 := Lib.hid (HBd.out.grown hg5 (by have := HBd.out.size; omega) (fun q hq => by injection hq; omega)); clear hm5 hg5)
    | (go_at_call 51; refine (once_any 1 (.func 55) _ w4).mono ?_; rintro e wd ⟨s1, s2, rfl, hs1, hs2, hbd⟩; have HMd := Lib.hid (map_below HM4.out hbd); have HXd := Lib.hid (HX4.out.below hbd (Nat.le_refl _)); have HQd1 := Lib.hid (HQ41.out.below hbd (Nat.le_refl _)); have HQd2 := Lib.hid (HQ42.out.below hbd (Nat.le_refl _)); have HPd1 := Lib.hid (HP41.out.below hbd (Nat.le_refl _)); have HPd2 := Lib.hid (HP42.out.below hbd (Nat.le_refl _)); have HDd1 := Lib.hid (HD41.out.below hbd (Nat.le_refl _)); have HDd2 := Lib.hid (HD42.out.below hbd (Nat.le_refl _)); have HSd1 := Lib.hid (hs1.up HB4.out.size); have HSd2 := Lib.hid (hs2.up HB4.out.size); have HBd := Lib.hid (HB4.out.trans (hbd.mono HB4.out.size)); clear hs1 hs2 hbd)
    | (refine wpList_insert_own _ rfl _ _ _ 64 rfl 9 71 law9 Tryd.underlying64 fR (w.heap.size + 1) 3 _ rfl HMc.out (by decide) _ _ (.string wDelay) rfl rfl k4.out _ [] rfl ?_; intro w4 hm4 hg4; have HM4 := Lib.hid hm4; have HX4 := Lib.hid (HXc.out.grown HMc.out hg4); have HQ41 := Lib.hid (HQc1.out.grown HMc.out hg4); have HQ42 := Lib.hid (HQc2.out.grown HMc.out hg4); have HP41 := Lib.hid (HPc1.out.grown HMc.out hg4); have HP42 := Lib.hid (HPc2.out.grown HMc.out hg4); have HD41 := Lib.hid (HDc1.out.grown HMc.out hg4); have HD42 := Lib.hid (HDc2.out.grown HMc.out hg4); have HB4 := Lib.hid (HBc.out.grown hg4 (by have := HBc.out.size; omega) (fun q hq => by injection hq; omega)); clear hm4 hg4)
    | (go_at_call 51; refine (once_any 1 (.func 54) _ w3).mono ?_; rintro e wc ⟨d1, d2, rfl, hd1, hd2, hbc⟩; have HMc := Lib.hid (map_below HM3.out hbc); have HXc := Lib.hid (HX3.out.below hbc (Nat.le_refl _)); have HQc1 := Lib.hid (HQ31.out.below hbc (Nat.le_refl _)); have HQc2 := Lib.hid (HQ32.out.below hbc (Nat.le_refl _)); have HPc1 := Lib.hid (HP31.out.below hbc (Nat.le_refl _)); have HPc2 := Lib.hid (HP32.out.below hbc (Nat.le_refl _)); have HDc1 := Lib.hid (hd1.up HB3.out.size); have HDc2 := Lib.hid (hd2.up HB3.out.size); have HBc := Lib.hid (HB3.out.trans (hbc.mono HB3.out.size)); clear hd1 hd2 hbc)
    | (refine wpList_insert_own _ rfl _ _ _ 64 rfl 9 71 law9 Tryd.underlying64 fR (w.heap.size + 1) 2 _ rfl HMb.out (by decide) _ _ (.string wPoll) rfl rfl k3.out _ [] rfl ?_; intro w3 hm3 hg3; have HM3 := Lib.hid hm3; have HX3 := Lib.hid (HXb.out.grown HMb.out hg3); have HQ31 := Lib.hid (HQb1.out.grown HMb.out hg3); have HQ32 := Lib.hid (HQb2.out.grown HMb.out hg3); have HP31 := Lib.hid (HPb1.out.grown HMb.out hg3); have HP32 := Lib.hid (HPb2.out.grown HMb.out hg3); have HB3 := Lib.hid (HBb.out.grown hg3 (by have := HBb.out.size; omega) (fun q hq => by injection hq; omega)); clear hm3 hg3)
    | (go_at_call 51; refine (once_any 2 (.func 53) _ w2).mono ?_; rintro e wb ⟨p1, p2, rfl, hp1, hp2, hbb⟩; have HMb := Lib.hid (map_below HM2.out hbb); have HXb := Lib.hid (HX2.out.below hbb (Nat.le_refl _)); have HQb1 := Lib.hid (HQ21.out.below hbb (Nat.le_refl _)); have HQb2 := Lib.hid (HQ22.out.below hbb (Nat.le_refl _)); have HPb1 := Lib.hid (hp1.up HB2.out.size); have HPb2 := Lib.hid (hp2.up HB2.out.size); have HBb := Lib.hid (HB2.out.trans (hbb.mono HB2.out.size)); clear hp1 hp2 hbb)
    | (refine wpList_insert_own _ rfl _ _ _ 64 rfl 9 71 law9 Tryd.underlying64 fR (w.heap.size + 1) 1 _ rfl HMa.out (by decide) _ _ (.string wQuorum) rfl rfl k2.out _ [] rfl ?_; intro w2 hm2 hg2; have HM2 := Lib.hid hm2; have HX2 := Lib.hid (HXa.out.grown HMa.out hg2); have HQ21 := Lib.hid (HQa1.out.grown HMa.out hg2); have HQ22 := Lib.hid (HQa2.out.grown HMa.out hg2); have HB2 := Lib.hid (HBa.out.grown hg2 (by have := HBa.out.size; omega) (fun q hq => by injection hq; omega)); clear hm2 hg2)
    | (go_at_call 51; refine (once_any 1 (.func 52) _ w1).mono ?_; rintro e wa ⟨q1, q2, rfl, hq1, hq2, hba⟩; have HMa := Lib.hid (map_below HM1.out hba); have HXa := Lib.hid (HX1.out.below hba (Nat.le_refl _)); have HQa1 := Lib.hid (hq1.up HB1.out.size); have HQa2 := Lib.hid (hq2.up HB1.out.size); have HBa := Lib.hid (HB1.out.trans (hba.mono HB1.out.size)); clear hq1 hq2 hba)
    | (rw [← hwA]; refine wpList_insert_own _ rfl _ _ _ 64 rfl 9 71 law9 Tryd.underlying64 fR (w.heap.size + 1) 0 _ rfl HM0.out (by decide) _ _ (.string wServer) rfl rfl k1.out _ [] rfl ?_; intro w1 hm1 hg1; have HM1 := Lib.hid hm1; have HX1 := Lib.hid (HX0.out.grown HM0.out hg1); have HB1 := Lib.hid (HB0.out.grown hg1 (by have := HB0.out.size; omega) (fun q hq => by injection hq; omega)); clear hm1 hg1))
  go_ret
  exact ⟨_, rfl, ⟨_, _, _, _, _, _, _, _, _, by omega, HX5.out, HQ51.out, HQ52.out, HP51.out, HP52.out, HD51.out, HD52.out, HS51.out, HS52.out, HM5.out⟩, HB5.out⟩
end Go.Proofs.YtlbabhddjdhalaaDoor
