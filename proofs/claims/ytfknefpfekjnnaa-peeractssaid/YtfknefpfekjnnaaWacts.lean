/- Whatever calls come, each answer is the document's (laid by genacts.py: the end of a round stands once for each kind). -/
import Derived.Test.YtfknefpfekjnnaaWsilent
import Derived.Test.YtfknefpfekjnnaaRq
import Derived.Deep.RegionHeld3
import Derived.Deep.DeepCutAuto
namespace Go.Proofs.Ytfknefpfekjnnaa
open Go.RowKit

theorem regrown_re {w : World} {r : Nat} {k : Pr} (h : Re w r k) (d : Nat) (os : Array Obj) : Re (Sort.grow (redrawn w d) os) r k := h.below (below_regrown w d os)
/-- A peer behind so many acts. -/
structure Actd (i : Nat) (k : Pr) : Prop where
  ok : k.Ok
  t : k.t ≤ i
section
variable {i : Nat} {k : Pr}
theorem Actd.succ (g : Actd i k) : Actd (i + 1) k := ⟨g.ok, by have := g.t; omega⟩
theorem Actd.ask (g : Actd i k) {h c x : Int} (hE : k.askE h x = 0) (c1 : -9223372036854775808 ≤ c) (c2 : c ≤ 9223372036854775807) (x1 : 0 ≤ x) (x2 : x ≤ 18446744073709551615) : Actd (i + 1) (k.ask h c x) :=
  ⟨g.ok.ask (askE_ok hE).1 c1 c2 x1 x2, by have := g.t; simp only [Pr.ask]; omega⟩
theorem Actd.late (g : Actd i k) (hi : i ≤ 1000) (x : Int) : Actd (i + 1) (if k.isLate x = true then k.fail else k) := by
  split
  · exact ⟨g.ok.fail (by have := g.t; omega), by have := g.t; simp only [Pr.fail]; omega⟩
  · exact g.succ
theorem Actd.ans (g : Actd i k) (x : Int) (zs : List Int) : Actd (i + 1) (k.ans x zs) := by
  unfold Pr.ans
  split
  · exact ⟨g.ok.kiss, by have := g.t; simp only [Pr.kiss]; omega⟩
  · split
    · exact ⟨g.ok.good, by simp only [Pr.good]; omega⟩
    · exact g.succ
theorem smp_ex (k : Pr) (x c s : Int) (zs : List Int) : ∃ a1 a2 a3 a4, k.smp x c s zs = smp a1 a2 a3 a4 := by
  unfold Pr.smp; split
  · exact ⟨_, _, _, _, rfl⟩
  · exact ⟨_, _, _, _, rfl⟩
end
/-- A peer and the document's of the walk's own. -/
structure Bt (w wi : World) (p b : Nat) (k : Pr) (r : Nat) (j : Pr) : Prop where
  sp : Sp w wi p b k
  re : Re wi r j
  ro : w.heap.size ≤ r
  n1 : r ≠ p
  n2 : r ≠ b
section
variable {w wi wj : World} {p b r : Nat} {k k' j j' : Pr}
theorem Bt.below (s : Bt w wi p b k r j) (h : Below wi.heap.size wi wj) : Bt w wj p b k r j := ⟨s.sp.below h, s.re.below h, s.ro, s.n1, s.n2⟩
theorem Bt.fst (s : Bt w wi p b k r j) (hp : Pe wj p b k') (ht : Two p b wi wj) : Bt w wj p b k' r j := ⟨s.sp.two hp ht, s.re.two ht s.n1 s.n2, s.ro, s.n1, s.n2⟩
theorem Bt.snd (s : Bt w wi p b k r j) (hr : Re wj r j') (ht : But r wi wj) : Bt w wj p b k r j' :=
  ⟨⟨⟨(ht.block p s.sp.pe.lt s.n1.symm).trans s.sp.pe.blk, ht.bk s.sp.pe.bk s.n2.symm⟩, s.sp.bel.trans (ht.below s.sp.bel.size s.ro), s.sp.op, s.sp.ob⟩, hr, s.ro, s.n1, s.n2⟩
theorem Bt.start {w1 w2 : World} (s : Sp w w1 p b k) (hb : Below w1.heap.size w1 w2) (hr : w1.heap.size ≤ r) (h : Re w2 r j) : Bt w w2 p b k r j :=
  ⟨s.below hb, h, Nat.le_trans s.bel.size hr, by have := s.pe.lt; omega, by have := s.pe.bk.lt; omega⟩
end
/-- The same, with a block that neither is in. -/
structure Ba (w wi : World) (p b : Nat) (k : Pr) (r : Nat) (j : Pr) (q : Nat) (cs : Array Value) (T : TypeId) : Prop where
  bt : Bt w wi p b k r j
  act : wi.heap[q]? = some (.cells cs T (0, 0))
  m1 : q ≠ p
  m2 : q ≠ b
  m3 : q ≠ r
section
variable {w wi wj : World} {p b r q : Nat} {k k' j j' : Pr} {cs : Array Value} {T : TypeId}
theorem Ba.below (s : Ba w wi p b k r j q cs T) (h : Below wi.heap.size wi wj) : Ba w wj p b k r j q cs T := ⟨s.bt.below h, (h.block _ (heap_lt s.act)).trans s.act, s.m1, s.m2, s.m3⟩
theorem Ba.fst (s : Ba w wi p b k r j q cs T) (hp : Pe wj p b k') (ht : Two p b wi wj) : Ba w wj p b k' r j q cs T := ⟨s.bt.fst hp ht, (ht.block _ (heap_lt s.act) s.m1 s.m2).trans s.act, s.m1, s.m2, s.m3⟩
theorem Ba.snd (s : Ba w wi p b k r j q cs T) (hr : Re wj r j') (ht : But r wi wj) : Ba w wj p b k r j' q cs T := ⟨s.bt.snd hr ht, (ht.block _ (heap_lt s.act) s.m3).trans s.act, s.m1, s.m2, s.m3⟩
theorem Ba.cell (s : Ba w wi p b k r j q cs T) (n : Nat) : wi.cell? ⟨q, n, none⟩ = cs[n]? := cell_of_row _ _ n _ _ _ s.act
theorem Ba.new (s : Bt w wi p b k r j) (cs : Array Value) (T : TypeId) : Ba w (wi.alloc (.cells cs T)) p b k r j wi.heap.size cs T :=
  ⟨s.below (bel_alloc _ _), heap_alloc_new _ _, by have := s.sp.pe.lt; omega, by have := s.sp.pe.bk.lt; omega, by have := s.re.lt; omega⟩
theorem Ba.late (s : Ba w wi p b k r j q cs T) (o : k.Ok) (ht : k.t ≤ 1000000000000) (x : Int) : Calls Try.prog 15 #[.pointer (some ⟨p, 0, none⟩), .int .i64 x] wi fun e w' => e = .returned (.bool (k.isLate x)) ∧ Ba w w' p b (if k.isLate x = true then k.fail else k) r j q cs T :=
  (plate_any p b k wi s.bt.sp.pe o ht x).mono fun _ _ h => ⟨h.1, s.fst h.2.1 h.2.2⟩
theorem Ba.rlate (s : Ba w wi p b k r j q cs T) (o : j.Ok) (ht : j.t ≤ 1000000000000) (x : Int) : Calls Try.prog 16 #[.pointer (some ⟨r, 0, none⟩), .int .i64 x] wi fun e w' => e = .returned (.bool (j.isLate x)) ∧ Ba w w' p b k r (if j.isLate x = true then j.fail else j) q cs T :=
  (rlate_peer r j wi s.bt.re o ht x).mono fun _ _ h => ⟨h.1, s.snd h.2.1 h.2.2⟩
end
set_option maxRecDepth 100000 in
theorem string_of {W : World} {g cp : Nat} {zs : List Int} (hz : Bytes W (some ⟨g, 0, none⟩) 48 cp zs) : (convert 35 9 (.slice (some ⟨g, 0, none⟩) 48 cp)).run Try.prog W = .ok (.string (strOfNums zs)) W := by
  obtain ⟨hl, _, _, _, hat, _⟩ := hz
  obtain ⟨g', o', he, hg, hh⟩ := hat (by omega)
  injection he with he
  injection he with e1 e2
  subst e1 e2
  exact run_string 48 hl hh
theorem string_nil (w : World) : (convert 35 9 (.slice none 0 0)).run Try.prog w = .ok (.string ⟨#[]⟩) w := run_convert_bytes_nil w 35 5 Try.underlying35 Try.underlying5 0 0 9 Try.underlying9
theorem bytes_but {w w' : World} {g n cp p : Nat} {zs : List Int} (h : Bytes w (some ⟨g, 0, none⟩) n cp zs) (ht : But p w w') (h1 : g ≠ p) : Bytes w' (some ⟨g, 0, none⟩) n cp zs := bytes_two h (Two.of_but' (b := p) ht) h1 h1
set_option maxRecDepth 100000 in
set_option maxHeartbeats 4000000 in
theorem walk_acts (u : Value) (c : Cfg) (h : Int) (A : Option Addr) (len cap : Nat) (w : World) (hc : CfIn w u c) (hz : ActsIn w A len cap) :
    Calls Try.prog 3 #[cval u c, .int .i64 h, .slice A len cap] w fun e w' => e = .returned (.bool true) ∧ Below w.heap.size w w' := by
  have KA := Lib.hid (fun w => alive_any w)
  obtain ⟨hlc, hlm, L, hL, hZ⟩ := hz
  unfold maxLen at hlm
  have HZ := Lib.hid hZ
  have HLL := Lib.hid hL
  have hlenm := hc.len
  unfold maxLen at hlenm
  clear hZ hL
  obtain ⟨B, cp, hu, hcp⟩ := hc.S.len
  have KN := Lib.hid (fun W (h2 : Below w.heap.size w W) (e : pnewE c h = 0) => pnew_ok u c W (hc.S.below h2 (Nat.le_refl _)) h e)
  have KB := Lib.hid (fun W (h2 : Below w.heap.size w W) (e : pnewE c h ≠ 0) => pnew_bad u c W (hc.S.below h2 (Nat.le_refl _)) h e)
  have RN := Lib.hid (fun W (h2 : Below w.heap.size w W) (hl : c.S.length ≤ 1000000) (e : pnewE c h = 0) => rnew_ok u c W (hc.S.below h2 (Nat.le_refl _)) hl h e)
  have RB := Lib.hid (fun W (h2 : Below w.heap.size w W) (hl : c.S.length ≤ 1000000) (e : pnewE c h ≠ 0) => rnew_bad u c W (hc.S.below h2 (Nat.le_refl _)) hl h e)
  have HN : Hid (pnewE c h = 0 → Actd 0 (Pr.new c h)) := fun e => ⟨Pr.new_ok e, Int.le_refl _⟩
  clear hc
  subst hu
  obtain ⟨S, q, l, m, d, s⟩ := c
  simp only [Pr.new] at *
  generalize pnewE (Cfg.mk S q l m d s) h = E at *
  unfold cval at *
  simp only at *
  generalize S.length = N at *
  have hNN : Hid ((w.alloc (.cells #[.slice B N cp, .int .i64 q, .int .i64 l, .int .i64 m, .int .i64 d, .int .i64 s] 24)).heap[w.heap.size]? = some (.cells #[.slice B N cp, .int .i64 q, .int .i64 l, .int .i64 m, .int .i64 d, .int .i64 s] 24 (0, 0))) := heap_alloc_new w _
  have BW := Lib.hid (bel_alloc w (.cells #[.slice B N cp, .int .i64 q, .int .i64 l, .int .i64 m, .int .i64 d, .int .i64 s] 24))
  by_cases hg : 50 < N ∨ 100 < len
  · clear KN KB RN RB HN
    have hd : decide ((50 : Int) < (N : Int)) = true ∨ (decide ((50 : Int) < (N : Int)) = false ∧ decide ((100 : Int) < (len : Int)) = true) := by
      by_cases h : 50 < N
      · exact .inl (decide_eq_true (by omega))
      · exact .inr ⟨decide_eq_false (by omega), decide_eq_true (by omega)⟩
    clear hg
    rcases hd with hd | ⟨hd, hd2⟩
    all_goals
      go_enter Try.func3, Try.ntmps3
      go_wp2_with fail
      refine (KA.out _).mono ?_
      rintro e w1 ⟨rfl, hb1⟩
      have HB := Lib.hid (bel_trans BW.out hb1)
      clear hb1
      go_wp2
      go_ret
      exact ⟨rfl, HB.out⟩
  have hd : decide ((50 : Int) < (N : Int)) = false := decide_eq_false (by omega)
  have hd2 : decide ((100 : Int) < (len : Int)) = false := decide_eq_false (by omega)
  by_cases he : E = 0
  rotate_left
  · have he2 : (E == 0) = false := by simp [he]
    have he3 : (E != 0) = true := by simp [he]
    have KB1 := Lib.hid (KB.out _ BW.out he)
    have RB1 := Lib.hid (fun W hb => RB.out W hb (by omega) he)
    clear KN KB RN RB HN
    go_enter Try.func3, Try.ntmps3
    go_wp2_with fail
    refine KB1.out.mono ?_
    rintro e w1 ⟨rfl, hb1⟩
    have HB := Lib.hid (bel_trans BW.out hb1)
    obtain ⟨f0, f1, f2, f3, f4, f5⟩ := six_cells ((hb1.block _ (heap_lt hNN.out)).trans hNN.out)
    have RB2 := Lib.hid (RB1.out w1 HB.out)
    clear hb1 KB1 RB1
    go_wp2_with fail
    refine RB2.out.mono ?_
    rintro e w2 ⟨rfl, hb2⟩
    have HB2 := Lib.hid (bel_trans HB.out hb2)
    clear hb2 RB2 f0 f1 f2 f3 f4 f5
    go_wp2_with fail
    refine (KA.out _).mono ?_
    rintro e w3 ⟨rfl, hb3⟩
    have HB3 := Lib.hid (bel_trans HB2.out hb3)
    clear hb3
    go_wp2
    go_ret
    exact ⟨rfl, HB3.out⟩
  have KN1 := Lib.hid (KN.out _ BW.out he)
  have RN1 := Lib.hid (fun W hb => RN.out W hb (by omega) he)
  have R0 := Lib.hid (HN.out he)
  clear KN KB RN RB HN he hcp hlenm
  go_enter Try.func3, Try.ntmps3
  go_wp2_with fail
  refine KN1.out.mono ?_
  rintro e w1 ⟨p, b, rfl, hp, hb, hpe, hb1⟩
  obtain ⟨W0, hW0⟩ : ∃ W0, W0 = w.alloc (.cells #[.slice B N cp, .int .i64 q, .int .i64 l, .int .i64 m, .int .i64 d, .int .i64 s] 24) := ⟨_, rfl⟩
  rw [← hW0] at hp hb hb1 hNN BW
  have S1 := Lib.hid (Sp.start hb1 hp hb hpe)
  have RN2 := Lib.hid (RN1.out w1 (bel_trans BW.out S1.out.bel))
  obtain ⟨f0, f1, f2, f3, f4, f5⟩ := six_cells ((S1.out.bel.block _ (heap_lt hNN.out)).trans hNN.out)
  clear hp hb hpe hb1 hW0 KN1 RN1 hd hd2
  go_wp2_with fail
  refine RN2.out.mono ?_
  rintro e w2 ⟨r, rfl, hr, hre, hb2⟩
  have B2 := Lib.hid (Bt.start S1.out hb2 hr hre)
  clear hr hre hb2 RN2 S1 f0 f1 f2 f3 f4 f5 hNN
  generalize Pr.mk l m d l 0 0 h 0 0 0 = k0 at *
  go_wp2_with fail
  go_loopw [59] (fun v59 wi => ∃ (i : Nat) (k : Pr), i ≤ len ∧ v59 = .int .i64 (i : Int) ∧ Hid (Actd i k) ∧ Hid (Bt W0 wi p b k r k)) (fun s _ => len - (intOf s).toNat)
  case atStart => exact ⟨0, k0, Nat.zero_le _, rfl, R0, B2⟩
  case round =>
    clear B2 R0
    obtain ⟨i, k, hi, rfl, G, BB⟩ := hrel
    by_cases hin : i < len
    · obtain ⟨t, ht⟩ : ∃ t, L[i]? = some t := ⟨L[i]'(by have := HLL.out; omega), List.getElem?_eq_getElem _⟩
      obtain ⟨tin, g, o, rfl, hg, c0, c1, c2, c3, c4⟩ := (HZ.out.below (bel_trans BW.out BB.out.sp.bel)) i t ht
      obtain ⟨tk, th, tc, tx, tA, tn, tp, tz⟩ := t
      simp only at c0 c1 c2 c3 c4
      have ht9 : k.t ≤ 1000000000000 := by have := G.out.t; omega
      have HA : Hid (∀ W, Below w.heap.size w W → Bytes W tA tn tp tz) := fun W hb => ((HZ.out i _ ht).1.below hb).z1
      have hx1 := tin.x1
      have hh1 := tin.h1
      have hc1 := tin.c1
      simp only at hx1 hh1 hc1
      clear tin ht hg
      by_cases hk0 : tk = 0
      · subst hk0
        have A1 := Lib.hid (Ba.new BB.out #[.int .i64 0, .int .i64 th, .int .i64 tc, .int .u64 tx, .slice tA tn tp] 37)
        by_cases hE : k.askE th tx = 0
        ·
          have KQ := Lib.hid (ask_ok p b k _ A1.out.bt.sp.pe th tc tx hE hx1.1 hx1.2)
          have KR := Lib.hid (fun W (h : Re W r k) => rask_ok r k W h th tc tx hE hx1.1 hx1.2)
          have G3 := Lib.hid (G.out.ask hE hc1.1 hc1.2 hx1.1 hx1.2)
          have hlt := A1.out.bt.re.lt
          generalize k.ask th tc tx = k2 at *
          generalize (query tx).bytes = zs at *
          clear ht9 HA hx1 hh1 hc1 hE
          go_wp2_with fail
          refine KQ.out.mono ?_
          rintro e w3 ⟨g3, cp3, rfl, hg3, hz3, hpe, hb3⟩
          have A3 := Lib.hid (A1.out.fst hpe (Two.of_but' hb3))
          have Z3 := Lib.hid hz3
          have hgr : Hid (g3 ≠ r) := by show g3 ≠ r; omega
          have KR3 := Lib.hid (KR.out w3 A3.out.bt.re)
          have a1 : w3.cell? ⟨wr.heap.size, 1, none⟩ = some (.int .i64 th) := A3.out.cell 1
          have a2 : w3.cell? ⟨wr.heap.size, 2, none⟩ = some (.int .i64 tc) := A3.out.cell 2
          have a3 : w3.cell? ⟨wr.heap.size, 3, none⟩ = some (.int .u64 tx) := A3.out.cell 3
          clear hg3 hz3 hpe hb3 KQ KR A1 hlt c0 c1 c2 c3 c4 BB G
          go_wp2_with fail
          refine KR3.out.mono ?_
          rintro e w4 ⟨g4, cp4, rfl, hg4, hz4, hre, hb4⟩
          have B4 := Lib.hid (A3.out.snd hre hb4).bt
          have u3 := string_of (bytes_but Z3.out hb4 hgr.out)
          have u4 := string_of hz4
          generalize strOfNums zs = s9 at *
          clear hg4 hz4 hre hb4 KR3 A3 Z3 hgr a1 a2 a3
          go_wp2_with fail
          clear u3 u4
          have c6 := B4.out.re.facts.2.2.2.1
          have c7 := B4.out.re.facts.2.2.2.2.1
          have e6 := fun d os => cell_regrown c6 d os
          have e7 := fun d os => cell_regrown c7 d os
          have q1 : ∀ d' os, Calls Try.prog 22 #[.pointer (some ⟨p, 0, none⟩)] (Sort.grow (redrawn w4 d') os) fun e w'' => e = .returned (.int .i64 k2.st) ∧ ∃ p : Regrown, w'' = Sort.grow (redrawn w4 p.d) p.os := fun d' os => Calls.regrown_of (same_below (state_any p b _ _ (regrown_pe B4.out.sp.pe d' os)))
          have q2 : ∀ d' os, Calls Try.prog 23 #[.pointer (some ⟨p, 0, none⟩)] (Sort.grow (redrawn w4 d') os) fun e w'' => e = .returned (.int .i64 k2.n) ∧ ∃ p : Regrown, w'' = Sort.grow (redrawn w4 p.d) p.os := fun d' os => Calls.regrown_of (same_below (wait_any p b _ _ (regrown_pe B4.out.sp.pe d' os)))
          have q3 : ∀ d' os, Calls Try.prog 24 #[.pointer (some ⟨p, 0, none⟩)] (Sort.grow (redrawn w4 d') os) fun e w'' => e = .returned (.int .i64 k2.next) ∧ ∃ p : Regrown, w'' = Sort.grow (redrawn w4 p.d) p.os := fun d' os => Calls.regrown_of (pnext_any p b _ _ (regrown_pe B4.out.sp.pe d' os) G3.out.ok)
          have q4 : ∀ d' os, Calls Try.prog 25 #[.pointer (some ⟨r, 0, none⟩)] (Sort.grow (redrawn w4 d') os) fun e w'' => e = .returned (.int .i64 k2.next) ∧ ∃ p : Regrown, w'' = Sort.grow (redrawn w4 p.d) p.os := fun d' os => Calls.regrown_of (rnext_peer r _ _ (regrown_re B4.out.re d' os) G3.out.ok)
          obtain ⟨y1, hy1⟩ : ∃ y1, k2.st = y1 := ⟨_, rfl⟩
          obtain ⟨y2, hy2⟩ : ∃ y2, k2.n = y2 := ⟨_, rfl⟩
          obtain ⟨y3, hy3⟩ : ∃ y3, k2.next = y3 := ⟨_, rfl⟩
          rw [hy1] at e6 q1
          rw [hy2] at e7 q2
          rw [hy3] at q3 q4
          clear hy1 hy2 hy3 c6 c7
          go_wp2_with fail
          refine wp_region_quiet_below (by kernel_rfl) (by kernel_rfl) ?_
          repeat (go_big_quiet_step (first | with_reducible exact q1 _ _ | with_reducible exact q2 _ _ | with_reducible exact q3 _ _ | with_reducible exact q4 _ _))
          refine wpQuiet_nil ?_
          intro w31 hw'
          have hb31 : Below w4.heap.size w4 w31 := by
            obtain ⟨⟨dq, osq⟩, hw''⟩ := hw'
            rw [hw'']; exact below_regrown _ dq osq
          have B31 := Lib.hid (B4.out.below hb31)
          clear hw' q1 q2 q3 q4 e6 e7 hb31 B4
          go_wp2
          go_roundw
          case rel => exact ⟨i + 1, k2, by omega, by go_num, G3, B31⟩
          case measure => simp [intOf]; omega
        ·
          have KQ := Lib.hid (ask_bad p b k _ A1.out.bt.sp.pe th tc tx hE)
          have KR := Lib.hid (rask_bad r k _ A1.out.bt.re th tc tx hE)
          have G3 := Lib.hid G.out.succ
          generalize k.askE th tx = E2 at *
          clear ht9 HA hx1 hh1 hc1 hE
          go_wp2_with fail
          refine KQ.out.mono ?_
          rintro e w3 ⟨rfl, rfl⟩
          go_wp2_with fail
          refine KR.out.mono ?_
          rintro e w3 ⟨rfl, rfl⟩
          have B4 := Lib.hid A1.out.bt
          have u3 := string_nil (wr.alloc (.cells #[.int .i64 0, .int .i64 th, .int .i64 tc, .int .u64 tx, .slice tA tn tp] 37))
          clear KQ KR A1 c0 c1 c2 c3 c4 BB G
          go_wp2_with fail
          clear u3
          have c6 := B4.out.re.facts.2.2.2.1
          have c7 := B4.out.re.facts.2.2.2.2.1
          have e6 := fun d os => cell_regrown c6 d os
          have e7 := fun d os => cell_regrown c7 d os
          have q1 : ∀ d' os, Calls Try.prog 22 #[.pointer (some ⟨p, 0, none⟩)] (Sort.grow (redrawn (wr.alloc (.cells #[.int .i64 0, .int .i64 th, .int .i64 tc, .int .u64 tx, .slice tA tn tp] 37)) d') os) fun e w'' => e = .returned (.int .i64 k.st) ∧ ∃ p : Regrown, w'' = Sort.grow (redrawn (wr.alloc (.cells #[.int .i64 0, .int .i64 th, .int .i64 tc, .int .u64 tx, .slice tA tn tp] 37)) p.d) p.os := fun d' os => Calls.regrown_of (same_below (state_any p b _ _ (regrown_pe B4.out.sp.pe d' os)))
          have q2 : ∀ d' os, Calls Try.prog 23 #[.pointer (some ⟨p, 0, none⟩)] (Sort.grow (redrawn (wr.alloc (.cells #[.int .i64 0, .int .i64 th, .int .i64 tc, .int .u64 tx, .slice tA tn tp] 37)) d') os) fun e w'' => e = .returned (.int .i64 k.n) ∧ ∃ p : Regrown, w'' = Sort.grow (redrawn (wr.alloc (.cells #[.int .i64 0, .int .i64 th, .int .i64 tc, .int .u64 tx, .slice tA tn tp] 37)) p.d) p.os := fun d' os => Calls.regrown_of (same_below (wait_any p b _ _ (regrown_pe B4.out.sp.pe d' os)))
          have q3 : ∀ d' os, Calls Try.prog 24 #[.pointer (some ⟨p, 0, none⟩)] (Sort.grow (redrawn (wr.alloc (.cells #[.int .i64 0, .int .i64 th, .int .i64 tc, .int .u64 tx, .slice tA tn tp] 37)) d') os) fun e w'' => e = .returned (.int .i64 k.next) ∧ ∃ p : Regrown, w'' = Sort.grow (redrawn (wr.alloc (.cells #[.int .i64 0, .int .i64 th, .int .i64 tc, .int .u64 tx, .slice tA tn tp] 37)) p.d) p.os := fun d' os => Calls.regrown_of (pnext_any p b _ _ (regrown_pe B4.out.sp.pe d' os) G3.out.ok)
          have q4 : ∀ d' os, Calls Try.prog 25 #[.pointer (some ⟨r, 0, none⟩)] (Sort.grow (redrawn (wr.alloc (.cells #[.int .i64 0, .int .i64 th, .int .i64 tc, .int .u64 tx, .slice tA tn tp] 37)) d') os) fun e w'' => e = .returned (.int .i64 k.next) ∧ ∃ p : Regrown, w'' = Sort.grow (redrawn (wr.alloc (.cells #[.int .i64 0, .int .i64 th, .int .i64 tc, .int .u64 tx, .slice tA tn tp] 37)) p.d) p.os := fun d' os => Calls.regrown_of (rnext_peer r _ _ (regrown_re B4.out.re d' os) G3.out.ok)
          obtain ⟨y1, hy1⟩ : ∃ y1, k.st = y1 := ⟨_, rfl⟩
          obtain ⟨y2, hy2⟩ : ∃ y2, k.n = y2 := ⟨_, rfl⟩
          obtain ⟨y3, hy3⟩ : ∃ y3, k.next = y3 := ⟨_, rfl⟩
          rw [hy1] at e6 q1
          rw [hy2] at e7 q2
          rw [hy3] at q3 q4
          clear hy1 hy2 hy3 c6 c7
          go_wp2_with fail
          refine wp_region_quiet_below (by kernel_rfl) (by kernel_rfl) ?_
          repeat (go_big_quiet_step (first | with_reducible exact q1 _ _ | with_reducible exact q2 _ _ | with_reducible exact q3 _ _ | with_reducible exact q4 _ _))
          refine wpQuiet_nil ?_
          intro w31 hw'
          have hb31 : Below (wr.alloc (.cells #[.int .i64 0, .int .i64 th, .int .i64 tc, .int .u64 tx, .slice tA tn tp] 37)).heap.size (wr.alloc (.cells #[.int .i64 0, .int .i64 th, .int .i64 tc, .int .u64 tx, .slice tA tn tp] 37)) w31 := by
            obtain ⟨⟨dq, osq⟩, hw''⟩ := hw'
            rw [hw'']; exact below_regrown _ dq osq
          have B31 := Lib.hid (B4.out.below hb31)
          clear hw' q1 q2 q3 q4 e6 e7 hb31 B4
          go_wp2
          go_roundw
          case rel => exact ⟨i + 1, k, by omega, by go_num, G3, B31⟩
          case measure => simp [intOf]; omega
      have hk0b : (tk == 0) = false := by simp [hk0]
      have A1 := Lib.hid (Ba.new BB.out #[.int .i64 tk, .int .i64 th, .int .i64 tc, .int .u64 tx, .slice tA tn tp] 37)
      by_cases hk1 : tk = 1
      · have hk1b : (tk == 1) = true := by simp [hk1]
        clear hk1 hk0
        have KA1 := Lib.hid (fun W (t : Ba W0 W p b k r k wr.heap.size #[.int .i64 tk, .int .i64 th, .int .i64 tc, .int .u64 tx, .slice tA tn tp] 37) => t.late G.out.ok ht9 th)
        have KB1 := Lib.hid (fun W k3 (t : Ba W0 W p b k3 r k wr.heap.size #[.int .i64 tk, .int .i64 th, .int .i64 tc, .int .u64 tx, .slice tA tn tp] 37) => t.rlate G.out.ok ht9 th)
        have G3 := Lib.hid (G.out.late (by omega) th)
        generalize (if k.isLate th = true then k.fail else k) = k2 at *
        generalize k.isLate th = lt at *
        clear ht9 HA hx1 hh1 hc1
        go_wp2_with fail
        obtain ⟨W, hW⟩ : ∃ W, W = wr.alloc (.cells #[.int .i64 tk, .int .i64 th, .int .i64 tc, .int .u64 tx, .slice tA tn tp] 37) := ⟨_, rfl⟩
        obtain ⟨q9, hq⟩ : ∃ q9, q9 = wr.heap.size := ⟨_, rfl⟩
        rw [← hW, ← hq]
        rw [← hW, ← hq] at A1
        rw [← hq] at KA1 KB1
        have A2 := Lib.hid (A1.out.below (show Below W.heap.size W W.drew from below_draws 1))
        clear hW hq BB c0 c1 c2 c3 c4 G
        go_region_held3 (fun w' => w'.cell? ⟨q9, 1, none⟩ = some (.int .i64 th))
          (first | exact M2.out.cell 1 | exact M1.out.cell 1 | exact A2.out.cell 1)
          (first
            | (go_at_call 16; refine (KB1.out _ _ M1.out).mono ?_; rintro e z2 ⟨rfl, h2⟩; have M2 := Lib.hid h2; clear h2)
            | (go_at_call 15; refine (KA1.out _ A2.out).mono ?_; rintro e z1 ⟨rfl, h1⟩; have M1 := Lib.hid h1; clear h1))
        have B4 := Lib.hid M2.out.bt
        clear KA1 KB1 A1 A2 M1 M2
        go_wp2_with fail
        have c6 := B4.out.re.facts.2.2.2.1
        have c7 := B4.out.re.facts.2.2.2.2.1
        have e6 := fun d os => cell_regrown c6 d os
        have e7 := fun d os => cell_regrown c7 d os
        have q1 : ∀ d' os, Calls Try.prog 22 #[.pointer (some ⟨p, 0, none⟩)] (Sort.grow (redrawn z2 d') os) fun e w'' => e = .returned (.int .i64 k2.st) ∧ ∃ p : Regrown, w'' = Sort.grow (redrawn z2 p.d) p.os := fun d' os => Calls.regrown_of (same_below (state_any p b _ _ (regrown_pe B4.out.sp.pe d' os)))
        have q2 : ∀ d' os, Calls Try.prog 23 #[.pointer (some ⟨p, 0, none⟩)] (Sort.grow (redrawn z2 d') os) fun e w'' => e = .returned (.int .i64 k2.n) ∧ ∃ p : Regrown, w'' = Sort.grow (redrawn z2 p.d) p.os := fun d' os => Calls.regrown_of (same_below (wait_any p b _ _ (regrown_pe B4.out.sp.pe d' os)))
        have q3 : ∀ d' os, Calls Try.prog 24 #[.pointer (some ⟨p, 0, none⟩)] (Sort.grow (redrawn z2 d') os) fun e w'' => e = .returned (.int .i64 k2.next) ∧ ∃ p : Regrown, w'' = Sort.grow (redrawn z2 p.d) p.os := fun d' os => Calls.regrown_of (pnext_any p b _ _ (regrown_pe B4.out.sp.pe d' os) G3.out.ok)
        have q4 : ∀ d' os, Calls Try.prog 25 #[.pointer (some ⟨r, 0, none⟩)] (Sort.grow (redrawn z2 d') os) fun e w'' => e = .returned (.int .i64 k2.next) ∧ ∃ p : Regrown, w'' = Sort.grow (redrawn z2 p.d) p.os := fun d' os => Calls.regrown_of (rnext_peer r _ _ (regrown_re B4.out.re d' os) G3.out.ok)
        obtain ⟨y1, hy1⟩ : ∃ y1, k2.st = y1 := ⟨_, rfl⟩
        obtain ⟨y2, hy2⟩ : ∃ y2, k2.n = y2 := ⟨_, rfl⟩
        obtain ⟨y3, hy3⟩ : ∃ y3, k2.next = y3 := ⟨_, rfl⟩
        rw [hy1] at e6 q1
        rw [hy2] at e7 q2
        rw [hy3] at q3 q4
        clear hy1 hy2 hy3 c6 c7
        go_wp2_with fail
        refine wp_region_quiet_below (by kernel_rfl) (by kernel_rfl) ?_
        repeat (go_big_quiet_step (first | with_reducible exact q1 _ _ | with_reducible exact q2 _ _ | with_reducible exact q3 _ _ | with_reducible exact q4 _ _))
        refine wpQuiet_nil ?_
        intro w31 hw'
        have hb31 : Below z2.heap.size z2 w31 := by
          obtain ⟨⟨dq, osq⟩, hw''⟩ := hw'
          rw [hw'']; exact below_regrown _ dq osq
        have B31 := Lib.hid (B4.out.below hb31)
        clear hw' q1 q2 q3 q4 e6 e7 hb31 B4
        go_wp2
        go_roundw
        case rel => exact ⟨i + 1, k2, by omega, by go_num, G3, B31⟩
        case measure => simp [intOf]; omega
      have hk1b : (tk == 1) = false := by simp [hk1]
      by_cases hk2 : tk = 2
      · have hk2b : (tk == 2) = true := by simp [hk2]
        have hk3b : (tk == 3) = false := by simp [hk2]
        clear hk0 hk1 hk2
        have KW := Lib.hid (panswer_any p b k _ A1.out.bt.sp.pe G.out.ok th tc th hc1.1 hc1.2 tA tn tp tz (HA.out _ (bel_trans BW.out A1.out.bt.sp.bel)))
        have KR := Lib.hid (fun W (h : Re W r k) hz => ranswer_any r k W h G.out.ok th tc th hc1.1 hc1.2 tA tn tp tz hz)
        have G3 := Lib.hid (G.out.ans th tz)
        obtain ⟨o1, o2, o3, o4, ho⟩ := smp_ex k th tc th tz
        rw [ho] at KW KR
        generalize k.ans th tz = k2 at *
        generalize k.ansY th tz = y9 at *
        clear ho ht9 hx1 hh1 hc1
        go_wp2_with fail
        refine KW.out.mono ?_
        rintro e w3 ⟨rfl, hpe, hb3⟩
        have A4 := Lib.hid ((A1.out.fst hpe hb3).below (bel_alloc w3 (.cells (smp o1 o2 o3 o4) 47)))
        have X4 := Lib.hid (Ba.new (A1.out.fst hpe hb3).bt (smp o1 o2 o3 o4) 47)
        have KR4 := Lib.hid (KR.out _ A4.out.bt.re (HA.out _ (bel_trans BW.out A4.out.bt.sp.bel)))
        have a1 : (w3.alloc (.cells (smp o1 o2 o3 o4) 47)).cell? ⟨wr.heap.size, 1, none⟩ = some (.int .i64 th) := A4.out.cell 1
        have a2 : (w3.alloc (.cells (smp o1 o2 o3 o4) 47)).cell? ⟨wr.heap.size, 2, none⟩ = some (.int .i64 tc) := A4.out.cell 2
        clear hpe hb3 KW KR A1 c0 c1 c2 c3 c4 BB G HA
        go_wp2_with fail
        refine KR4.out.mono ?_
        rintro e w4 ⟨rfl, hre, hb4⟩
        have X5 := Lib.hid ((X4.out.snd hre hb4).below (bel_alloc w4 (.cells (smp o1 o2 o3 o4) 47)))
        have x0 : (w4.alloc (.cells (smp o1 o2 o3 o4) 47)).cell? ⟨w3.heap.size, 0, none⟩ = some (.int .i64 o1) := X5.out.cell 0
        have x1 : (w4.alloc (.cells (smp o1 o2 o3 o4) 47)).cell? ⟨w3.heap.size, 1, none⟩ = some (.int .i64 o2) := X5.out.cell 1
        have x2 : (w4.alloc (.cells (smp o1 o2 o3 o4) 47)).cell? ⟨w3.heap.size, 2, none⟩ = some (.int .i64 o3) := X5.out.cell 2
        have x3 : (w4.alloc (.cells (smp o1 o2 o3 o4) 47)).cell? ⟨w3.heap.size, 3, none⟩ = some (.int .i64 o4) := X5.out.cell 3
        have B5 := Lib.hid X5.out.bt
        clear hre hb4 KR4 A4 X4 X5 a1 a2
        go_wp2_with fail
        clear x0 x1 x2 x3
        have c6 := B5.out.re.facts.2.2.2.1
        have c7 := B5.out.re.facts.2.2.2.2.1
        have e6 := fun d os => cell_regrown c6 d os
        have e7 := fun d os => cell_regrown c7 d os
        have q1 : ∀ d' os, Calls Try.prog 22 #[.pointer (some ⟨p, 0, none⟩)] (Sort.grow (redrawn (w4.alloc (.cells (smp o1 o2 o3 o4) 47)) d') os) fun e w'' => e = .returned (.int .i64 k2.st) ∧ ∃ p : Regrown, w'' = Sort.grow (redrawn (w4.alloc (.cells (smp o1 o2 o3 o4) 47)) p.d) p.os := fun d' os => Calls.regrown_of (same_below (state_any p b _ _ (regrown_pe B5.out.sp.pe d' os)))
        have q2 : ∀ d' os, Calls Try.prog 23 #[.pointer (some ⟨p, 0, none⟩)] (Sort.grow (redrawn (w4.alloc (.cells (smp o1 o2 o3 o4) 47)) d') os) fun e w'' => e = .returned (.int .i64 k2.n) ∧ ∃ p : Regrown, w'' = Sort.grow (redrawn (w4.alloc (.cells (smp o1 o2 o3 o4) 47)) p.d) p.os := fun d' os => Calls.regrown_of (same_below (wait_any p b _ _ (regrown_pe B5.out.sp.pe d' os)))
        have q3 : ∀ d' os, Calls Try.prog 24 #[.pointer (some ⟨p, 0, none⟩)] (Sort.grow (redrawn (w4.alloc (.cells (smp o1 o2 o3 o4) 47)) d') os) fun e w'' => e = .returned (.int .i64 k2.next) ∧ ∃ p : Regrown, w'' = Sort.grow (redrawn (w4.alloc (.cells (smp o1 o2 o3 o4) 47)) p.d) p.os := fun d' os => Calls.regrown_of (pnext_any p b _ _ (regrown_pe B5.out.sp.pe d' os) G3.out.ok)
        have q4 : ∀ d' os, Calls Try.prog 25 #[.pointer (some ⟨r, 0, none⟩)] (Sort.grow (redrawn (w4.alloc (.cells (smp o1 o2 o3 o4) 47)) d') os) fun e w'' => e = .returned (.int .i64 k2.next) ∧ ∃ p : Regrown, w'' = Sort.grow (redrawn (w4.alloc (.cells (smp o1 o2 o3 o4) 47)) p.d) p.os := fun d' os => Calls.regrown_of (rnext_peer r _ _ (regrown_re B5.out.re d' os) G3.out.ok)
        obtain ⟨y1, hy1⟩ : ∃ y1, k2.st = y1 := ⟨_, rfl⟩
        obtain ⟨y2, hy2⟩ : ∃ y2, k2.n = y2 := ⟨_, rfl⟩
        obtain ⟨y3, hy3⟩ : ∃ y3, k2.next = y3 := ⟨_, rfl⟩
        rw [hy1] at e6 q1
        rw [hy2] at e7 q2
        rw [hy3] at q3 q4
        clear hy1 hy2 hy3 c6 c7
        go_wp2_with fail
        refine wp_region_quiet_below (by kernel_rfl) (by kernel_rfl) ?_
        repeat (go_big_quiet_step (first | with_reducible exact q1 _ _ | with_reducible exact q2 _ _ | with_reducible exact q3 _ _ | with_reducible exact q4 _ _))
        refine wpQuiet_nil ?_
        intro w31 hw'
        have hb31 : Below (w4.alloc (.cells (smp o1 o2 o3 o4) 47)).heap.size (w4.alloc (.cells (smp o1 o2 o3 o4) 47)) w31 := by
          obtain ⟨⟨dq, osq⟩, hw''⟩ := hw'
          rw [hw'']; exact below_regrown _ dq osq
        have B31 := Lib.hid (B5.out.below hb31)
        clear hw' q1 q2 q3 q4 e6 e7 hb31 B5
        go_wp2
        go_roundw
        case rel => exact ⟨i + 1, k2, by omega, by go_num, G3, B31⟩
        case measure => simp [intOf]; omega
      have hk2b : (tk == 2) = false := by simp [hk2]
      by_cases hk3 : tk = 3
      · have hk3b : (tk == 3) = true := by simp [hk3]
        clear hk0 hk1 hk2 hk3
        have hk1 := G.out.ok.k1
        have hk2 := G.out.ok.k2
        have KGd := Lib.hid (fun W => good_bytes (c := k.ck) (r := tx) (x := tx) ⟨hk1, hk2⟩ hx1 hx1 W)
        have KW := Lib.hid (fun W (h : Pe W p b k) A9 n9 cp9 (hz : Bytes W A9 n9 cp9 (good k.ck tx tx).bytes) => panswer_any p b k W h G.out.ok th tc th hc1.1 hc1.2 A9 n9 cp9 _ hz)
        have KR := Lib.hid (fun W (h : Re W r k) A9 n9 cp9 (hz : Bytes W A9 n9 cp9 (good k.ck tx tx).bytes) => ranswer_any r k W h G.out.ok th tc th hc1.1 hc1.2 A9 n9 cp9 _ hz)
        generalize (good k.ck tx tx).bytes = zs at *
        have G3 := Lib.hid (G.out.ans th zs)
        obtain ⟨o1, o2, o3, o4, ho⟩ := smp_ex k th tc th zs
        rw [ho] at KW KR
        have hre0 := A1.out.bt.re
        generalize k.ans th zs = k2 at *
        generalize k.ansY th zs = y9 at *
        clear ho ht9 hx1 hh1 hc1 hk1 hk2
        go_wp2_with fail
        refine still_tail_any 8 (by kernel_rfl) (by kernel_rfl) ?_
        intro W eW
        simp only [List.take_succ_cons, List.take_zero, List.drop_succ_cons, List.drop_zero]
        have A2 := Lib.hid (A1.out.below (show Below (wr.alloc (.cells #[.int .i64 tk, .int .i64 th, .int .i64 tc, .int .u64 tx, .slice tA tn tp] 37)).heap.size (wr.alloc (.cells #[.int .i64 tk, .int .i64 th, .int .i64 tc, .int .u64 tx, .slice tA tn tp] 37)) W by rw [eW]; exact below_draws 1))
        have d11 : W.cell? ⟨r, 11, none⟩ = some (.int .u64 k.ck) := A2.out.bt.re.facts.2.2.2.2.2.2.2.2
        have a3 : W.cell? ⟨wr.heap.size, 3, none⟩ = some (.int .u64 tx) := A2.out.cell 3
        clear eW hre0 A1 c0 c1 c2 c3 c4 BB G HA
        repeat still_step
        refine wpStill_nil ?_
        have KG3 := Lib.hid (KGd.out W)
        clear d11 a3 KGd
        go_wp2_with fail
        refine KG3.out.mono ?_
        rintro e w2 ⟨g2, cp2, rfl, hg2, hz2, hb2⟩
        have A3 := Lib.hid (A2.out.below hb2)
        have hgn : Hid (g2 ≠ p ∧ g2 ≠ b ∧ g2 ≠ r) := by
          have h1 := A2.out.bt.sp.pe.lt
          have h2 := A2.out.bt.sp.pe.bk.lt
          have h3 := A2.out.bt.re.lt
          show g2 ≠ p ∧ g2 ≠ b ∧ g2 ≠ r
          omega
        have Z3 := Lib.hid hz2
        have KW3 := Lib.hid (KW.out w2 A3.out.bt.sp.pe _ 48 cp2 hz2)
        have a1 : w2.cell? ⟨wr.heap.size, 1, none⟩ = some (.int .i64 th) := A3.out.cell 1
        have a2 : w2.cell? ⟨wr.heap.size, 2, none⟩ = some (.int .i64 tc) := A3.out.cell 2
        clear hg2 hz2 hb2 A2 KW KG3
        go_wp2_with fail
        refine KW3.out.mono ?_
        rintro e w3 ⟨rfl, hpe, hb3⟩
        have A4 := Lib.hid ((A3.out.fst hpe hb3).below (bel_alloc w3 (.cells (smp o1 o2 o3 o4) 47)))
        have X4 := Lib.hid (Ba.new (A3.out.fst hpe hb3).bt (smp o1 o2 o3 o4) 47)
        have KR4 := Lib.hid (KR.out _ A4.out.bt.re _ 48 cp2 (bytes_below (bytes_two Z3.out hb3 hgn.out.1 hgn.out.2.1) (bel_alloc w3 (.cells (smp o1 o2 o3 o4) 47))))
        clear a1 a2
        have a1 : (w3.alloc (.cells (smp o1 o2 o3 o4) 47)).cell? ⟨wr.heap.size, 1, none⟩ = some (.int .i64 th) := A4.out.cell 1
        have a2 : (w3.alloc (.cells (smp o1 o2 o3 o4) 47)).cell? ⟨wr.heap.size, 2, none⟩ = some (.int .i64 tc) := A4.out.cell 2
        clear hpe hb3 KW3 KR A3 Z3
        go_wp2_with fail
        refine KR4.out.mono ?_
        rintro e w4 ⟨rfl, hre, hb4⟩
        have X5 := Lib.hid ((X4.out.snd hre hb4).below (bel_alloc w4 (.cells (smp o1 o2 o3 o4) 47)))
        have x0 : (w4.alloc (.cells (smp o1 o2 o3 o4) 47)).cell? ⟨w3.heap.size, 0, none⟩ = some (.int .i64 o1) := X5.out.cell 0
        have x1 : (w4.alloc (.cells (smp o1 o2 o3 o4) 47)).cell? ⟨w3.heap.size, 1, none⟩ = some (.int .i64 o2) := X5.out.cell 1
        have x2 : (w4.alloc (.cells (smp o1 o2 o3 o4) 47)).cell? ⟨w3.heap.size, 2, none⟩ = some (.int .i64 o3) := X5.out.cell 2
        have x3 : (w4.alloc (.cells (smp o1 o2 o3 o4) 47)).cell? ⟨w3.heap.size, 3, none⟩ = some (.int .i64 o4) := X5.out.cell 3
        have B5 := Lib.hid X5.out.bt
        clear hre hb4 KR4 A4 X4 X5 a1 a2 hgn
        go_wp2_with fail
        clear x0 x1 x2 x3
        have c6 := B5.out.re.facts.2.2.2.1
        have c7 := B5.out.re.facts.2.2.2.2.1
        have e6 := fun d os => cell_regrown c6 d os
        have e7 := fun d os => cell_regrown c7 d os
        have q1 : ∀ d' os, Calls Try.prog 22 #[.pointer (some ⟨p, 0, none⟩)] (Sort.grow (redrawn (w4.alloc (.cells (smp o1 o2 o3 o4) 47)) d') os) fun e w'' => e = .returned (.int .i64 k2.st) ∧ ∃ p : Regrown, w'' = Sort.grow (redrawn (w4.alloc (.cells (smp o1 o2 o3 o4) 47)) p.d) p.os := fun d' os => Calls.regrown_of (same_below (state_any p b _ _ (regrown_pe B5.out.sp.pe d' os)))
        have q2 : ∀ d' os, Calls Try.prog 23 #[.pointer (some ⟨p, 0, none⟩)] (Sort.grow (redrawn (w4.alloc (.cells (smp o1 o2 o3 o4) 47)) d') os) fun e w'' => e = .returned (.int .i64 k2.n) ∧ ∃ p : Regrown, w'' = Sort.grow (redrawn (w4.alloc (.cells (smp o1 o2 o3 o4) 47)) p.d) p.os := fun d' os => Calls.regrown_of (same_below (wait_any p b _ _ (regrown_pe B5.out.sp.pe d' os)))
        have q3 : ∀ d' os, Calls Try.prog 24 #[.pointer (some ⟨p, 0, none⟩)] (Sort.grow (redrawn (w4.alloc (.cells (smp o1 o2 o3 o4) 47)) d') os) fun e w'' => e = .returned (.int .i64 k2.next) ∧ ∃ p : Regrown, w'' = Sort.grow (redrawn (w4.alloc (.cells (smp o1 o2 o3 o4) 47)) p.d) p.os := fun d' os => Calls.regrown_of (pnext_any p b _ _ (regrown_pe B5.out.sp.pe d' os) G3.out.ok)
        have q4 : ∀ d' os, Calls Try.prog 25 #[.pointer (some ⟨r, 0, none⟩)] (Sort.grow (redrawn (w4.alloc (.cells (smp o1 o2 o3 o4) 47)) d') os) fun e w'' => e = .returned (.int .i64 k2.next) ∧ ∃ p : Regrown, w'' = Sort.grow (redrawn (w4.alloc (.cells (smp o1 o2 o3 o4) 47)) p.d) p.os := fun d' os => Calls.regrown_of (rnext_peer r _ _ (regrown_re B5.out.re d' os) G3.out.ok)
        obtain ⟨y1, hy1⟩ : ∃ y1, k2.st = y1 := ⟨_, rfl⟩
        obtain ⟨y2, hy2⟩ : ∃ y2, k2.n = y2 := ⟨_, rfl⟩
        obtain ⟨y3, hy3⟩ : ∃ y3, k2.next = y3 := ⟨_, rfl⟩
        rw [hy1] at e6 q1
        rw [hy2] at e7 q2
        rw [hy3] at q3 q4
        clear hy1 hy2 hy3 c6 c7
        go_wp2_with fail
        refine wp_region_quiet_below (by kernel_rfl) (by kernel_rfl) ?_
        repeat (go_big_quiet_step (first | with_reducible exact q1 _ _ | with_reducible exact q2 _ _ | with_reducible exact q3 _ _ | with_reducible exact q4 _ _))
        refine wpQuiet_nil ?_
        intro w31 hw'
        have hb31 : Below (w4.alloc (.cells (smp o1 o2 o3 o4) 47)).heap.size (w4.alloc (.cells (smp o1 o2 o3 o4) 47)) w31 := by
          obtain ⟨⟨dq, osq⟩, hw''⟩ := hw'
          rw [hw'']; exact below_regrown _ dq osq
        have B31 := Lib.hid (B5.out.below hb31)
        clear hw' q1 q2 q3 q4 e6 e7 hb31 B5
        go_wp2
        go_roundw
        case rel => exact ⟨i + 1, k2, by omega, by go_num, G3, B31⟩
        case measure => simp [intOf]; omega
      have hk3b : (tk == 3) = false := by simp [hk3]
      by_cases hk4 : tk = 4
      · have hk4b : (tk == 4) = true := by simp [hk4]
        clear hk0 hk1 hk2 hk3 hk4
        have G3 := Lib.hid G.out.succ
        have a1 : (wr.alloc (.cells #[.int .i64 tk, .int .i64 th, .int .i64 tc, .int .u64 tx, .slice tA tn tp] 37)).cell? ⟨wr.heap.size, 1, none⟩ = some (.int .i64 th) := A1.out.cell 1
        have e1 := fun d os => cell_regrown a1 d os
        have q1 : ∀ d' os, Calls Try.prog 20 #[.pointer (some ⟨p, 0, none⟩), .int .i64 th] (Sort.grow (redrawn (wr.alloc (.cells #[.int .i64 tk, .int .i64 th, .int .i64 tc, .int .u64 tx, .slice tA tn tp] 37)) d') os) fun e w'' => e = .returned (.bool (k.isDue th)) ∧ ∃ p : Regrown, w'' = Sort.grow (redrawn (wr.alloc (.cells #[.int .i64 tk, .int .i64 th, .int .i64 tc, .int .u64 tx, .slice tA tn tp] 37)) p.d) p.os := fun d' os => Calls.regrown_of (same_below (due_any p b _ _ (regrown_pe A1.out.bt.sp.pe d' os) th))
        have q2 : ∀ d' os, Calls Try.prog 21 #[.pointer (some ⟨r, 0, none⟩), .int .i64 th] (Sort.grow (redrawn (wr.alloc (.cells #[.int .i64 tk, .int .i64 th, .int .i64 tc, .int .u64 tx, .slice tA tn tp] 37)) d') os) fun e w'' => e = .returned (.bool (k.isDue th)) ∧ ∃ p : Regrown, w'' = Sort.grow (redrawn (wr.alloc (.cells #[.int .i64 tk, .int .i64 th, .int .i64 tc, .int .u64 tx, .slice tA tn tp] 37)) p.d) p.os := fun d' os => Calls.regrown_of (same_below (risdue_any r _ _ (regrown_re A1.out.bt.re d' os) th))
        generalize k.isDue th = dt at *
        clear ht9 hx1 hh1 hc1 HA a1
        go_wp2_with fail
        refine wp_region_quiet_below (by kernel_rfl) (by kernel_rfl) ?_
        repeat (go_big_quiet_step (first | with_reducible exact q1 _ _ | with_reducible exact q2 _ _))
        refine wpQuiet_nil ?_
        intro w3 hw'
        have hb3 : Below (wr.alloc (.cells #[.int .i64 tk, .int .i64 th, .int .i64 tc, .int .u64 tx, .slice tA tn tp] 37)).heap.size (wr.alloc (.cells #[.int .i64 tk, .int .i64 th, .int .i64 tc, .int .u64 tx, .slice tA tn tp] 37)) w3 := by
          obtain ⟨⟨dq, osq⟩, hw''⟩ := hw'
          rw [hw'']; exact below_regrown _ dq osq
        have B4 := Lib.hid (A1.out.bt.below hb3)
        clear hw' q1 q2 e1 hb3 A1 c0 c1 c2 c3 c4 BB G
        go_wp2_with fail
        have c6 := B4.out.re.facts.2.2.2.1
        have c7 := B4.out.re.facts.2.2.2.2.1
        have e6 := fun d os => cell_regrown c6 d os
        have e7 := fun d os => cell_regrown c7 d os
        have q1 : ∀ d' os, Calls Try.prog 22 #[.pointer (some ⟨p, 0, none⟩)] (Sort.grow (redrawn w3 d') os) fun e w'' => e = .returned (.int .i64 k.st) ∧ ∃ p : Regrown, w'' = Sort.grow (redrawn w3 p.d) p.os := fun d' os => Calls.regrown_of (same_below (state_any p b _ _ (regrown_pe B4.out.sp.pe d' os)))
        have q2 : ∀ d' os, Calls Try.prog 23 #[.pointer (some ⟨p, 0, none⟩)] (Sort.grow (redrawn w3 d') os) fun e w'' => e = .returned (.int .i64 k.n) ∧ ∃ p : Regrown, w'' = Sort.grow (redrawn w3 p.d) p.os := fun d' os => Calls.regrown_of (same_below (wait_any p b _ _ (regrown_pe B4.out.sp.pe d' os)))
        have q3 : ∀ d' os, Calls Try.prog 24 #[.pointer (some ⟨p, 0, none⟩)] (Sort.grow (redrawn w3 d') os) fun e w'' => e = .returned (.int .i64 k.next) ∧ ∃ p : Regrown, w'' = Sort.grow (redrawn w3 p.d) p.os := fun d' os => Calls.regrown_of (pnext_any p b _ _ (regrown_pe B4.out.sp.pe d' os) G3.out.ok)
        have q4 : ∀ d' os, Calls Try.prog 25 #[.pointer (some ⟨r, 0, none⟩)] (Sort.grow (redrawn w3 d') os) fun e w'' => e = .returned (.int .i64 k.next) ∧ ∃ p : Regrown, w'' = Sort.grow (redrawn w3 p.d) p.os := fun d' os => Calls.regrown_of (rnext_peer r _ _ (regrown_re B4.out.re d' os) G3.out.ok)
        obtain ⟨y1, hy1⟩ : ∃ y1, k.st = y1 := ⟨_, rfl⟩
        obtain ⟨y2, hy2⟩ : ∃ y2, k.n = y2 := ⟨_, rfl⟩
        obtain ⟨y3, hy3⟩ : ∃ y3, k.next = y3 := ⟨_, rfl⟩
        rw [hy1] at e6 q1
        rw [hy2] at e7 q2
        rw [hy3] at q3 q4
        clear hy1 hy2 hy3 c6 c7
        go_wp2_with fail
        refine wp_region_quiet_below (by kernel_rfl) (by kernel_rfl) ?_
        repeat (go_big_quiet_step (first | with_reducible exact q1 _ _ | with_reducible exact q2 _ _ | with_reducible exact q3 _ _ | with_reducible exact q4 _ _))
        refine wpQuiet_nil ?_
        intro w31 hw'
        have hb31 : Below w3.heap.size w3 w31 := by
          obtain ⟨⟨dq, osq⟩, hw''⟩ := hw'
          rw [hw'']; exact below_regrown _ dq osq
        have B31 := Lib.hid (B4.out.below hb31)
        clear hw' q1 q2 q3 q4 e6 e7 hb31 B4
        go_wp2
        go_roundw
        case rel => exact ⟨i + 1, k, by omega, by go_num, G3, B31⟩
        case measure => simp [intOf]; omega
      have hk4b : (tk == 4) = false := by simp [hk4]
      clear hk0 hk1 hk2 hk3 hk4
      have G3 := Lib.hid G.out.succ
      have B4 := Lib.hid A1.out.bt
      clear ht9 hx1 hh1 hc1 HA A1 G BB
      go_wp2_with fail
      clear c0 c1 c2 c3 c4
      have c6 := B4.out.re.facts.2.2.2.1
      have c7 := B4.out.re.facts.2.2.2.2.1
      have e6 := fun d os => cell_regrown c6 d os
      have e7 := fun d os => cell_regrown c7 d os
      have q1 : ∀ d' os, Calls Try.prog 22 #[.pointer (some ⟨p, 0, none⟩)] (Sort.grow (redrawn (wr.alloc (.cells #[.int .i64 tk, .int .i64 th, .int .i64 tc, .int .u64 tx, .slice tA tn tp] 37)) d') os) fun e w'' => e = .returned (.int .i64 k.st) ∧ ∃ p : Regrown, w'' = Sort.grow (redrawn (wr.alloc (.cells #[.int .i64 tk, .int .i64 th, .int .i64 tc, .int .u64 tx, .slice tA tn tp] 37)) p.d) p.os := fun d' os => Calls.regrown_of (same_below (state_any p b _ _ (regrown_pe B4.out.sp.pe d' os)))
      have q2 : ∀ d' os, Calls Try.prog 23 #[.pointer (some ⟨p, 0, none⟩)] (Sort.grow (redrawn (wr.alloc (.cells #[.int .i64 tk, .int .i64 th, .int .i64 tc, .int .u64 tx, .slice tA tn tp] 37)) d') os) fun e w'' => e = .returned (.int .i64 k.n) ∧ ∃ p : Regrown, w'' = Sort.grow (redrawn (wr.alloc (.cells #[.int .i64 tk, .int .i64 th, .int .i64 tc, .int .u64 tx, .slice tA tn tp] 37)) p.d) p.os := fun d' os => Calls.regrown_of (same_below (wait_any p b _ _ (regrown_pe B4.out.sp.pe d' os)))
      have q3 : ∀ d' os, Calls Try.prog 24 #[.pointer (some ⟨p, 0, none⟩)] (Sort.grow (redrawn (wr.alloc (.cells #[.int .i64 tk, .int .i64 th, .int .i64 tc, .int .u64 tx, .slice tA tn tp] 37)) d') os) fun e w'' => e = .returned (.int .i64 k.next) ∧ ∃ p : Regrown, w'' = Sort.grow (redrawn (wr.alloc (.cells #[.int .i64 tk, .int .i64 th, .int .i64 tc, .int .u64 tx, .slice tA tn tp] 37)) p.d) p.os := fun d' os => Calls.regrown_of (pnext_any p b _ _ (regrown_pe B4.out.sp.pe d' os) G3.out.ok)
      have q4 : ∀ d' os, Calls Try.prog 25 #[.pointer (some ⟨r, 0, none⟩)] (Sort.grow (redrawn (wr.alloc (.cells #[.int .i64 tk, .int .i64 th, .int .i64 tc, .int .u64 tx, .slice tA tn tp] 37)) d') os) fun e w'' => e = .returned (.int .i64 k.next) ∧ ∃ p : Regrown, w'' = Sort.grow (redrawn (wr.alloc (.cells #[.int .i64 tk, .int .i64 th, .int .i64 tc, .int .u64 tx, .slice tA tn tp] 37)) p.d) p.os := fun d' os => Calls.regrown_of (rnext_peer r _ _ (regrown_re B4.out.re d' os) G3.out.ok)
      obtain ⟨y1, hy1⟩ : ∃ y1, k.st = y1 := ⟨_, rfl⟩
      obtain ⟨y2, hy2⟩ : ∃ y2, k.n = y2 := ⟨_, rfl⟩
      obtain ⟨y3, hy3⟩ : ∃ y3, k.next = y3 := ⟨_, rfl⟩
      rw [hy1] at e6 q1
      rw [hy2] at e7 q2
      rw [hy3] at q3 q4
      clear hy1 hy2 hy3 c6 c7
      go_wp2_with fail
      refine wp_region_quiet_below (by kernel_rfl) (by kernel_rfl) ?_
      repeat (go_big_quiet_step (first | with_reducible exact q1 _ _ | with_reducible exact q2 _ _ | with_reducible exact q3 _ _ | with_reducible exact q4 _ _))
      refine wpQuiet_nil ?_
      intro w31 hw'
      have hb31 : Below (wr.alloc (.cells #[.int .i64 tk, .int .i64 th, .int .i64 tc, .int .u64 tx, .slice tA tn tp] 37)).heap.size (wr.alloc (.cells #[.int .i64 tk, .int .i64 th, .int .i64 tc, .int .u64 tx, .slice tA tn tp] 37)) w31 := by
        obtain ⟨⟨dq, osq⟩, hw''⟩ := hw'
        rw [hw'']; exact below_regrown _ dq osq
      have B31 := Lib.hid (B4.out.below hb31)
      clear hw' q1 q2 q3 q4 e6 e7 hb31 B4
      go_wp2
      go_roundw
      case rel => exact ⟨i + 1, k, by omega, by go_num, G3, B31⟩
      case measure => simp [intOf]; omega
    · clear G
      go_wp2_with fail
      refine (KA.out _).mono ?_
      rintro e w3 ⟨rfl, hb3⟩
      have S3 := Lib.hid (BB.out.sp.below hb3)
      clear hb3
      go_wp2
      go_ret
      exact ⟨rfl, bel_trans BW.out S3.out.bel⟩
end Go.Proofs.Ytfknefpfekjnnaa
