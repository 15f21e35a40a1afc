/- Two queries are at least the least number of seconds apart (laid by genspaces.py: the end of a round stands three times). -/
import Derived.Test.YtfknefpfekjnnaaWsilent
namespace Go.Proofs.Ytfknefpfekjnnaa
open Go.RowKit

/-- A peer behind so many acts; bs: was it asked? -/
structure Goes (l m d : Int) (i : Nat) (bs : Bool) (k : Pr) : Prop where
  ok : k.Ok
  l : k.l = l
  m : k.m = m
  d : k.d = d
  t : k.t ≤ i
  gap : bs = true → k.st = 0 → k.sent + k.l * 1000000000 ≤ k.due
section
variable {l m d : Int} {i : Nat} {bs : Bool} {k : Pr}
theorem Goes.new (h1 : 4 ≤ l) (h2 : l ≤ m) (h3 : m ≤ 1024) (h4 : 1 ≤ d) (h5 : d ≤ 1000 * l - 2000) : Goes l m d 0 false (kn l m d) :=
  ⟨(Rest.new h1 h2 h3 h4 h5).ok, rfl, rfl, rfl, by simp [kn], fun h => by cases h⟩
theorem Goes.lo (g : Goes l m d i bs k) : l ≤ k.n := by rw [← g.l]; exact g.ok.n1
theorem Goes.hi (g : Goes l m d i bs k) : k.n ≤ m := by rw [← g.m]; exact g.ok.n2
theorem Goes.succ (g : Goes l m d i bs k) : Goes l m d (i + 1) bs k := ⟨g.ok, g.l, g.m, g.d, by have := g.t; omega, g.gap⟩
theorem Goes.ask (g : Goes l m d i bs k) {h c x : Int} (hE : k.askE h x = 0) (c1 : -9223372036854775808 ≤ c) (c2 : c ≤ 9223372036854775807) (x1 : 0 ≤ x) (x2 : x ≤ 18446744073709551615) : Goes l m d (i + 1) true (k.ask h c x) :=
  ⟨g.ok.ask (askE_ok hE).1 c1 c2 x1 x2, g.l, g.m, g.d, by have := g.t; simp only [Pr.ask]; omega, fun _ h => absurd h (show ¬ (1 : Int) = 0 by decide)⟩
theorem Goes.late (g : Goes l m d i bs k) (hi : i ≤ 1000) (x : Int) : Goes l m d (i + 1) bs (if k.isLate x = true then k.fail else k) := by
  split
  · have ht := g.t
    have hb := g.ok.bk (by omega)
    have hn := hb.nx
    have hlo := g.lo
    simp only [Pr.bk] at hn
    exact ⟨g.ok.fail (by omega), g.l, g.m, g.d, by simp only [Pr.fail]; omega, fun _ _ => by have := g.l; simp only [Pr.fail]; omega⟩
  · exact g.succ
theorem Goes.ans (g : Goes l m d i bs k) (x : Int) (zs : List Int) : Goes l m d (i + 1) bs (k.ans x zs) := by
  unfold Pr.ans
  split
  · exact ⟨g.ok.kiss, g.l, g.m, g.d, by have := g.t; simp only [Pr.kiss]; omega, fun _ h => absurd h (show ¬ (2 : Int) = 0 by decide)⟩
  · split
    · exact ⟨g.ok.good, g.l, g.m, g.d, by simp only [Pr.good]; omega, fun _ _ => by simp only [Pr.good]; omega⟩
    · exact g.succ
theorem late_sent (x : Int) : (if k.isLate x = true then k.fail else k).sent = k.sent := by split <;> rfl
theorem ans_sent (x : Int) (zs : List Int) : (k.ans x zs).sent = k.sent := by unfold Pr.ans; split; rfl; split <;> rfl
theorem ask_due {h x : Int} (hE : k.askE h x = 0) : k.st = 0 ∧ k.due ≤ h := of_decide_eq_true (askE_ok hE).2.1
end
theorem s1_of {l m d : Int} {i : Nat} {bs : Bool} {k : Pr} (g : Hid (Goes l m d i bs k)) : 0 ≤ k.sent := g.out.ok.s1
theorem s2_of {l m d : Int} {i : Nat} {bs : Bool} {k : Pr} (g : Hid (Goes l m d i bs k)) : k.sent ≤ 4611686018427387903 := g.out.ok.s2
theorem get_query {x : Int} (h0 : 0 ≤ x) (h1 : x ≤ 18446744073709551615) {W : World} {g cp : Nat} (hz : Bytes W (some ⟨g, 0, none⟩) 48 cp (query x).bytes) : Calls Try.prog 26 #[.slice (some ⟨g, 0, none⟩) 48 cp] W fun e w' => e = .returned (.tuple #[.agg #[.int .u8 0, .int .u8 4, .int .u8 3, .int .u8 0, .int .i8 0, .int .i8 0, .int .u32 0, .int .u32 0, .int .u32 0, .int .u64 0, .int .u64 0, .int .u64 0, .int .u64 x], .int .i64 0]) ∧ Below W.heap.size W w' := by
  obtain ⟨_, hlc, hcm, _, hat, _⟩ := hz
  obtain ⟨g', o', he, hg, hh⟩ := hat (by omega)
  injection he with he
  injection he with e1 e2
  subst e1 e2
  exact get_back (query x) [] g 0 48 cp W (query_in x h0 h1) (query_fits x) (fun z hz => by cases hz) (by rw [List.append_nil]; exact (query x).bytes_length) hlc hcm hg (by rw [List.append_nil]; exact hh)
set_option maxRecDepth 100000 in
set_option maxHeartbeats 4000000 in
theorem walk_spaces (u : Value) (c : Cfg) (A : Option Addr) (len cap : Nat) (w : World) (hc : CfIn w u c) (hz : ActsIn w A len cap) :
    Calls Try.prog 5 #[cval u c, .slice A len cap] w fun e w' => e = .returned (.bool true) ∧ Below w.heap.size w w' := by
  have KA := Lib.hid (fun w => alive_any w)
  obtain ⟨hlc, hlm, L, hL, hZ⟩ := hz
  unfold maxLen at hlm
  have HZ := Lib.hid hZ
  have HLL := Lib.hid hL
  have hlenm := hc.len
  unfold maxLen at hlenm
  clear hZ hL
  obtain ⟨B, cp, hu, hcp⟩ := hc.S.len
  have KN := Lib.hid (fun W (h : Below w.heap.size w W) (e : pnewE c 0 = 0) => pnew_ok u c W (hc.S.below h (Nat.le_refl _)) 0 e)
  have KB := Lib.hid (fun W (h : Below w.heap.size w W) (e : pnewE c 0 ≠ 0) => pnew_bad u c W (hc.S.below h (Nat.le_refl _)) 0 e)
  have HN : Hid (pnewE c 0 = 0 → (4 ≤ c.l ∧ c.l ≤ 1024) ∧ (c.l ≤ c.m ∧ c.m ≤ 1024) ∧ (1 ≤ c.d ∧ c.d ≤ 1000 * c.l - 2000) ∧ c.S.length ≤ 16) := fun e => nums_of (pnewE_ok e).1
  clear hc
  subst hu
  obtain ⟨S, q, l, m, d, s⟩ := c
  simp only [Pr.new] at *
  generalize pnewE (Cfg.mk S q l m d s) 0 = E at *
  unfold cval at *
  simp only at *
  generalize S.length = N at *
  have hNN : Hid ((w.alloc (.cells #[.slice B N cp, .int .i64 q, .int .i64 l, .int .i64 m, .int .i64 d, .int .i64 s] 24)).heap[w.heap.size]? = some (.cells #[.slice B N cp, .int .i64 q, .int .i64 l, .int .i64 m, .int .i64 d, .int .i64 s] 24 (0, 0))) := heap_alloc_new w _
  have BW := Lib.hid (bel_alloc w (.cells #[.slice B N cp, .int .i64 q, .int .i64 l, .int .i64 m, .int .i64 d, .int .i64 s] 24))
  by_cases hg : 50 < N ∨ 200 < len
  · clear KN KB HN
    have hd : decide ((50 : Int) < (N : Int)) = true ∨ (decide ((50 : Int) < (N : Int)) = false ∧ decide ((200 : Int) < (len : Int)) = true) := by
      by_cases h : 50 < N
      · exact .inl (decide_eq_true (by omega))
      · exact .inr ⟨decide_eq_false (by omega), decide_eq_true (by omega)⟩
    clear hg
    rcases hd with hd | ⟨hd, hd2⟩
    all_goals
      go_enter Try.func5, Try.ntmps5
      go_wp2_with fail
      refine (KA.out _).mono ?_
      rintro e w1 ⟨rfl, hb1⟩
      have HB := Lib.hid (bel_trans BW.out hb1)
      clear hb1
      go_wp2
      go_ret
      exact ⟨rfl, HB.out⟩
  have hd : decide ((50 : Int) < (N : Int)) = false := decide_eq_false (by omega)
  have hd2 : decide ((200 : Int) < (len : Int)) = false := decide_eq_false (by omega)
  by_cases he : E = 0
  rotate_left
  · have he2 : (E == 0) = false := by simp [he]
    have KB1 := Lib.hid (KB.out _ BW.out he)
    clear KN KB HN
    go_enter Try.func5, Try.ntmps5
    go_wp2_with fail
    refine KB1.out.mono ?_
    rintro e w1 ⟨rfl, hb1⟩
    have HB := Lib.hid (bel_trans BW.out hb1)
    clear hb1 KB1
    go_wp2_with fail
    refine (KA.out _).mono ?_
    rintro e w3 ⟨rfl, hb3⟩
    have HB3 := Lib.hid (bel_trans HB.out hb3)
    clear hb3
    go_wp2
    go_ret
    exact ⟨rfl, HB3.out⟩
  have KN1 := Lib.hid (KN.out _ BW.out he)
  obtain ⟨⟨l1, l2⟩, ⟨m1, m2⟩, ⟨d1, d2⟩, n16⟩ := HN.out he
  have R0 := Lib.hid (Goes.new l1 m1 m2 d1 d2)
  clear KN KB HN he n16 hcp d1 d2 hlenm
  go_enter Try.func5, Try.ntmps5
  go_wp2_with fail
  refine KN1.out.mono ?_
  rintro e w1 ⟨p, b, rfl, hp, hb, hpe, hb1⟩
  obtain ⟨W0, hW0⟩ : ∃ W0, W0 = w.alloc (.cells #[.slice B N cp, .int .i64 q, .int .i64 l, .int .i64 m, .int .i64 d, .int .i64 s] 24) := ⟨_, rfl⟩
  rw [← hW0] at hp hb hb1 hNN BW
  have S1 := Lib.hid (Sp.start hb1 hp hb hpe)
  clear hp hb hpe hb1 hW0 KN1 hd hd2
  go_wp2_with fail
  go_loopw [7, 8, 39] (fun v7 v8 v39 wi => ∃ (i : Nat) (bs : Bool) (k : Pr), i ≤ len ∧ v39 = .int .i64 (i : Int) ∧ v7 = .int .i64 k.sent ∧ v8 = .bool bs ∧ Hid (Goes l m d i bs k) ∧ Hid (Sp W0 wi p b k)) (fun _ _ s _ => len - (intOf s).toNat)
  case atStart => exact ⟨0, false, kn l m d, Nat.zero_le _, rfl, rfl, rfl, R0, S1⟩
  case round =>
    clear S1 R0
    obtain ⟨i, bs, k, hi, rfl, rfl, rfl, G, S⟩ := hrel
    by_cases hin : i < len
    · obtain ⟨t, ht⟩ : ∃ t, L[i]? = some t := ⟨L[i]'(by have := HLL.out; omega), List.getElem?_eq_getElem _⟩
      obtain ⟨tin, g, o, rfl, hg, c0, c1, c2, c3, c4⟩ := (HZ.out.below (bel_trans BW.out S.out.bel)) i t ht
      obtain ⟨tk, th, tc, tx, tA, tn, tp, tz⟩ := t
      simp only at c0 c1 c2 c3 c4
      have hs1 := s1_of G
      have hs2 := s2_of G
      have HA : Hid (∀ W, Below wr.heap.size wr W → Ac.In W ⟨tk, th, tc, tx, tA, tn, tp, tz⟩) := fun W hb => tin.below hb
      have hx1 := tin.x1
      have hh1 := tin.h1
      have hc1 := tin.c1
      simp only at hx1 hh1 hc1
      clear tin ht hg
      have S2 := Lib.hid (S.out.below (bel_alloc wr (.cells #[.int .i64 tk, .int .i64 th, .int .i64 tc, .int .u64 tx, .slice tA tn tp] 37)))
      by_cases hk0 : tk = 0
      · subst hk0
        by_cases hE : k.askE th tx = 0
        · have KQ := Lib.hid (ask_ok p b k _ S2.out.pe th tc tx hE hx1.1 hx1.2)
          have G3 := Lib.hid (G.out.ask hE hc1.1 hc1.2 hx1.1 hx1.2)
          have hdue := ask_due hE
          have hgap := G.out.gap
          rw [G.out.l] at hgap
          have HP := Lib.hid (And.intro (query_in tx hx1.1 hx1.2) (query_fits tx))
          have hw1 : IntKind.i64.wrap (l * 1000000000) = l * 1000000000 := IntWalk.i64_in _ (by omega)
          have hw2 : IntKind.i64.wrap (k.sent + l * 1000000000) = k.sent + l * 1000000000 := IntWalk.i64_in _ (by omega)
          have KGt := Lib.hid (fun W g cp (hz : Bytes W (some ⟨g, 0, none⟩) 48 cp (query tx).bytes) => get_query hx1.1 hx1.2 hz)
          have hcond : bs = true → decide (th < k.sent + l * 1000000000) = false := fun h => decide_eq_false (by have := hgap h hdue.1; omega)
          have hpw : p ≠ wr.heap.size := by have := S.out.pe.lt; omega
          have hact : (wr.alloc (.cells #[.int .i64 0, .int .i64 th, .int .i64 tc, .int .u64 tx, .slice tA tn tp] 37)).heap[wr.heap.size]? = some (.cells #[.int .i64 0, .int .i64 th, .int .i64 tc, .int .u64 tx, .slice tA tn tp] 37 (0, 0)) := heap_alloc_new wr _
          go_wp2_with fail
          refine KQ.out.mono ?_
          rintro e w3 ⟨g3, cp3, rfl, hg3, hz3, hpe, hb3⟩
          have S3 := Lib.hid (S2.out.two hpe (Two.of_but' hb3))
          have HA3 := Lib.hid ((hb3.block _ (heap_lt hact) hpw.symm).trans hact)
          have KG3 := Lib.hid (KGt.out w3 g3 cp3 hz3)
          clear hg3 hz3 hpe hb3 KQ KGt c0 c1 c2 c3 c4 S S2 G hdue hgap HP hact HA hE hx1 hh1 hc1
          go_wp2_with fail
          refine KG3.out.mono ?_
          rintro e w4 ⟨rfl, hb4⟩
          have S4 := Lib.hid (S3.out.below (bel_trans hb4 (bel_alloc w4 (.cells #[.int .u8 0, .int .u8 4, .int .u8 3, .int .u8 0, .int .i8 0, .int .i8 0, .int .u32 0, .int .u32 0, .int .u32 0, .int .u64 0, .int .u64 0, .int .u64 0, .int .u64 tx] 57))))
          have HA4 := Lib.hid (((bel_trans hb4 (bel_alloc w4 (.cells #[.int .u8 0, .int .u8 4, .int .u8 3, .int .u8 0, .int .i8 0, .int .i8 0, .int .u32 0, .int .u32 0, .int .u32 0, .int .u64 0, .int .u64 0, .int .u64 0, .int .u64 tx] 57))).block _ (heap_lt HA3.out)).trans HA3.out)
          clear hb4 KG3 S3 HA3
          have a1 : (w4.alloc (.cells #[.int .u8 0, .int .u8 4, .int .u8 3, .int .u8 0, .int .i8 0, .int .i8 0, .int .u32 0, .int .u32 0, .int .u32 0, .int .u64 0, .int .u64 0, .int .u64 0, .int .u64 tx] 57)).cell? ⟨wr.heap.size, 1, none⟩ = some (.int .i64 th) := cell_of_row _ _ 1 _ _ _ HA4.out
          have a3 : (w4.alloc (.cells #[.int .u8 0, .int .u8 4, .int .u8 3, .int .u8 0, .int .i8 0, .int .i8 0, .int .u32 0, .int .u32 0, .int .u32 0, .int .u64 0, .int .u64 0, .int .u64 0, .int .u64 tx] 57)).cell? ⟨wr.heap.size, 3, none⟩ = some (.int .u64 tx) := cell_of_row _ _ 3 _ _ _ HA4.out
          have HCu := Lib.hid ((S4.out.bel.block _ (heap_lt hNN.out)).trans hNN.out)
          obtain ⟨f0, f1, f2, f3, f4, f5⟩ := six_cells HCu.out
          clear f0 f1 f3 f4 f5 HCu
          cases bs with
          | true =>
            have hc9 := hcond rfl
            clear hcond
            go_wp2_with fail
            clear a1 a3 f2 hc9 hw1 hw2
            have HCt := Lib.hid ((S4.out.bel.block _ (heap_lt hNN.out)).trans hNN.out)
            obtain ⟨f0, f1, f2, f3, f4, f5⟩ := six_cells HCt.out
            have e2 := fun d os => cell_regrown f2 d os
            have e3 := fun d os => cell_regrown f3 d os
            have n1 := G3.out.lo
            have n2 := G3.out.hi
            have r1 : ∀ d' os, Calls Try.prog 23 #[.pointer (some ⟨p, 0, none⟩)] (Sort.grow (redrawn (w4.alloc (.cells #[.int .u8 0, .int .u8 4, .int .u8 3, .int .u8 0, .int .i8 0, .int .i8 0, .int .u32 0, .int .u32 0, .int .u32 0, .int .u64 0, .int .u64 0, .int .u64 0, .int .u64 tx] 57)) d') os) fun e w'' => e = .returned (.int .i64 (k.ask th tc tx).n) ∧ ∃ p : Regrown, w'' = Sort.grow (redrawn (w4.alloc (.cells #[.int .u8 0, .int .u8 4, .int .u8 3, .int .u8 0, .int .i8 0, .int .i8 0, .int .u32 0, .int .u32 0, .int .u32 0, .int .u64 0, .int .u64 0, .int .u64 0, .int .u64 tx] 57)) p.d) p.os := fun d' os => Calls.regrown_of (same_below (wait_any p b _ _ (regrown_pe S4.out.pe d' os)))
            have hSent : (k.ask th tc tx).sent = (k.ask th tc tx).sent := rfl
            obtain ⟨z7, hz7⟩ : ∃ z7, (k.ask th tc tx).n = z7 := ⟨_, rfl⟩
            rw [hz7] at n1 n2 r1
            have d1 : decide (z7 < l) = false := decide_eq_false (by omega)
            have d2 : decide (m < z7) = false := decide_eq_false (by omega)
            clear hz7 n1 n2 f0 f1 f2 f3 f4 f5 HCt hSent
            go_wp2_with fail
            refine wp_region_quiet_below (by kernel_rfl) (by kernel_rfl) ?_
            repeat (go_big_quiet_step (with_reducible exact r1 _ _))
            refine wpQuiet_nil ?_
            intro w21 hw'
            have hb21 : Below (w4.alloc (.cells #[.int .u8 0, .int .u8 4, .int .u8 3, .int .u8 0, .int .i8 0, .int .i8 0, .int .u32 0, .int .u32 0, .int .u32 0, .int .u64 0, .int .u64 0, .int .u64 0, .int .u64 tx] 57)).heap.size (w4.alloc (.cells #[.int .u8 0, .int .u8 4, .int .u8 3, .int .u8 0, .int .i8 0, .int .i8 0, .int .u32 0, .int .u32 0, .int .u32 0, .int .u64 0, .int .u64 0, .int .u64 0, .int .u64 tx] 57)) w21 := by
              obtain ⟨⟨dq, osq⟩, hw''⟩ := hw'
              rw [hw'']; exact below_regrown _ dq osq
            have S21 := Lib.hid (S4.out.below hb21)
            clear hw' r1 e2 e3 hb21 S4
            go_wp2
            go_roundw
            case rel => exact ⟨i + 1, true, k.ask th tc tx, by omega, by go_num, rfl, rfl, G3, S21⟩
            case measure => simp [intOf]; omega
          | false =>
            clear hcond
            go_wp2_with fail
            clear a1 a3 f2 hw1 hw2
            have HCt := Lib.hid ((S4.out.bel.block _ (heap_lt hNN.out)).trans hNN.out)
            obtain ⟨f0, f1, f2, f3, f4, f5⟩ := six_cells HCt.out
            have e2 := fun d os => cell_regrown f2 d os
            have e3 := fun d os => cell_regrown f3 d os
            have n1 := G3.out.lo
            have n2 := G3.out.hi
            have r1 : ∀ d' os, Calls Try.prog 23 #[.pointer (some ⟨p, 0, none⟩)] (Sort.grow (redrawn (w4.alloc (.cells #[.int .u8 0, .int .u8 4, .int .u8 3, .int .u8 0, .int .i8 0, .int .i8 0, .int .u32 0, .int .u32 0, .int .u32 0, .int .u64 0, .int .u64 0, .int .u64 0, .int .u64 tx] 57)) d') os) fun e w'' => e = .returned (.int .i64 (k.ask th tc tx).n) ∧ ∃ p : Regrown, w'' = Sort.grow (redrawn (w4.alloc (.cells #[.int .u8 0, .int .u8 4, .int .u8 3, .int .u8 0, .int .i8 0, .int .i8 0, .int .u32 0, .int .u32 0, .int .u32 0, .int .u64 0, .int .u64 0, .int .u64 0, .int .u64 tx] 57)) p.d) p.os := fun d' os => Calls.regrown_of (same_below (wait_any p b _ _ (regrown_pe S4.out.pe d' os)))
            have hSent : (k.ask th tc tx).sent = (k.ask th tc tx).sent := rfl
            obtain ⟨z7, hz7⟩ : ∃ z7, (k.ask th tc tx).n = z7 := ⟨_, rfl⟩
            rw [hz7] at n1 n2 r1
            have d1 : decide (z7 < l) = false := decide_eq_false (by omega)
            have d2 : decide (m < z7) = false := decide_eq_false (by omega)
            clear hz7 n1 n2 f0 f1 f2 f3 f4 f5 HCt hSent
            go_wp2_with fail
            refine wp_region_quiet_below (by kernel_rfl) (by kernel_rfl) ?_
            repeat (go_big_quiet_step (with_reducible exact r1 _ _))
            refine wpQuiet_nil ?_
            intro w21 hw'
            have hb21 : Below (w4.alloc (.cells #[.int .u8 0, .int .u8 4, .int .u8 3, .int .u8 0, .int .i8 0, .int .i8 0, .int .u32 0, .int .u32 0, .int .u32 0, .int .u64 0, .int .u64 0, .int .u64 0, .int .u64 tx] 57)).heap.size (w4.alloc (.cells #[.int .u8 0, .int .u8 4, .int .u8 3, .int .u8 0, .int .i8 0, .int .i8 0, .int .u32 0, .int .u32 0, .int .u32 0, .int .u64 0, .int .u64 0, .int .u64 0, .int .u64 tx] 57)) w21 := by
              obtain ⟨⟨dq, osq⟩, hw''⟩ := hw'
              rw [hw'']; exact below_regrown _ dq osq
            have S21 := Lib.hid (S4.out.below hb21)
            clear hw' r1 e2 e3 hb21 S4
            go_wp2
            go_roundw
            case rel => exact ⟨i + 1, true, k.ask th tc tx, by omega, by go_num, rfl, rfl, G3, S21⟩
            case measure => simp [intOf]; omega
        · have hE2 : (k.askE th tx == 0) = false := by simp [hE]
          have KQ := Lib.hid (ask_bad p b k _ S2.out.pe th tc tx hE)
          generalize k.askE th tx = E2 at *
          go_wp2_with fail
          refine KQ.out.mono ?_
          rintro e w3 ⟨rfl, rfl⟩
          have G3 := Lib.hid G.out.succ
          clear KQ c0 c1 c2 c3 c4 S hE hx1 hh1 hc1
          go_wp2
          go_roundw
          case rel => exact ⟨i + 1, bs, k, by omega, by go_num, rfl, rfl, G3, S2⟩
          case measure => simp [intOf]; omega
      have hk0b : (tk == 0) = false := by simp [hk0]
      by_cases hk1 : tk = 1
      · subst hk1
        have KL := Lib.hid (plate_any p b k _ S2.out.pe G.out.ok (by have := G.out.t; omega) th)
        have G3 := Lib.hid (G.out.late (by omega) th)
        have hsn := late_sent (k := k) th
        generalize (if k.isLate th = true then k.fail else k) = k2 at *
        generalize k.isLate th = lt at *
        go_wp2_with fail
        refine KL.out.mono ?_
        rintro e w3 ⟨rfl, hpe, hb3⟩
        have S3 := Lib.hid (S2.out.two hpe hb3)
        clear hpe hb3 KL c0 c1 c2 c3 c4 S S2 G HA hx1 hh1 hc1
        go_wp2_with fail
        have HCt := Lib.hid ((S3.out.bel.block _ (heap_lt hNN.out)).trans hNN.out)
        obtain ⟨f0, f1, f2, f3, f4, f5⟩ := six_cells HCt.out
        have e2 := fun d os => cell_regrown f2 d os
        have e3 := fun d os => cell_regrown f3 d os
        have n1 := G3.out.lo
        have n2 := G3.out.hi
        have r1 : ∀ d' os, Calls Try.prog 23 #[.pointer (some ⟨p, 0, none⟩)] (Sort.grow (redrawn w3 d') os) fun e w'' => e = .returned (.int .i64 k2.n) ∧ ∃ p : Regrown, w'' = Sort.grow (redrawn w3 p.d) p.os := fun d' os => Calls.regrown_of (same_below (wait_any p b _ _ (regrown_pe S3.out.pe d' os)))
        have hSent : k2.sent = k2.sent := rfl
        obtain ⟨z7, hz7⟩ : ∃ z7, k2.n = z7 := ⟨_, rfl⟩
        rw [hz7] at n1 n2 r1
        have d1 : decide (z7 < l) = false := decide_eq_false (by omega)
        have d2 : decide (m < z7) = false := decide_eq_false (by omega)
        clear hz7 n1 n2 f0 f1 f2 f3 f4 f5 HCt hSent
        go_wp2_with fail
        refine wp_region_quiet_below (by kernel_rfl) (by kernel_rfl) ?_
        repeat (go_big_quiet_step (with_reducible exact r1 _ _))
        refine wpQuiet_nil ?_
        intro w21 hw'
        have hb21 : Below w3.heap.size w3 w21 := by
          obtain ⟨⟨dq, osq⟩, hw''⟩ := hw'
          rw [hw'']; exact below_regrown _ dq osq
        have S21 := Lib.hid (S3.out.below hb21)
        clear hw' r1 e2 e3 hb21 S3
        go_wp2
        go_roundw
        case rel => exact ⟨i + 1, bs, k2, by omega, by go_num, by rw [hsn], rfl, G3, S21⟩
        case measure => simp [intOf]; omega
      · have hk1b : (tk == 1) = false := by simp [hk1]
        have KW := Lib.hid (panswer_any p b k _ S2.out.pe G.out.ok th tc 0 hc1.1 hc1.2 tA tn tp tz (HA.out _ (bel_alloc wr _)).z1)
        have G3 := Lib.hid (G.out.ans th tz)
        have hsn := ans_sent (k := k) th tz
        generalize k.ans th tz = k2 at *
        generalize k.ansY th tz = y2 at *
        generalize k.smp th tc 0 tz = z2 at *
        go_wp2_with fail
        refine KW.out.mono ?_
        rintro e w3 ⟨rfl, hpe, hb3⟩
        have S3 := Lib.hid (S2.out.two hpe hb3)
        clear hpe hb3 KW c0 c1 c2 c3 c4 S S2 G HA hx1 hh1 hc1
        go_wp2_with fail
        have HCt := Lib.hid ((S3.out.bel.block _ (heap_lt hNN.out)).trans hNN.out)
        obtain ⟨f0, f1, f2, f3, f4, f5⟩ := six_cells HCt.out
        have e2 := fun d os => cell_regrown f2 d os
        have e3 := fun d os => cell_regrown f3 d os
        have n1 := G3.out.lo
        have n2 := G3.out.hi
        have r1 : ∀ d' os, Calls Try.prog 23 #[.pointer (some ⟨p, 0, none⟩)] (Sort.grow (redrawn w3 d') os) fun e w'' => e = .returned (.int .i64 k2.n) ∧ ∃ p : Regrown, w'' = Sort.grow (redrawn w3 p.d) p.os := fun d' os => Calls.regrown_of (same_below (wait_any p b _ _ (regrown_pe S3.out.pe d' os)))
        have hSent : k2.sent = k2.sent := rfl
        obtain ⟨z7, hz7⟩ : ∃ z7, k2.n = z7 := ⟨_, rfl⟩
        rw [hz7] at n1 n2 r1
        have d1 : decide (z7 < l) = false := decide_eq_false (by omega)
        have d2 : decide (m < z7) = false := decide_eq_false (by omega)
        clear hz7 n1 n2 f0 f1 f2 f3 f4 f5 HCt hSent
        go_wp2_with fail
        refine wp_region_quiet_below (by kernel_rfl) (by kernel_rfl) ?_
        repeat (go_big_quiet_step (with_reducible exact r1 _ _))
        refine wpQuiet_nil ?_
        intro w21 hw'
        have hb21 : Below w3.heap.size w3 w21 := by
          obtain ⟨⟨dq, osq⟩, hw''⟩ := hw'
          rw [hw'']; exact below_regrown _ dq osq
        have S21 := Lib.hid (S3.out.below hb21)
        clear hw' r1 e2 e3 hb21 S3
        go_wp2
        go_roundw
        case rel => exact ⟨i + 1, bs, k2, by omega, by go_num, by rw [hsn], rfl, G3, S21⟩
        case measure => simp [intOf]; omega
    · clear G
      go_wp2_with fail
      refine (KA.out _).mono ?_
      rintro e w3 ⟨rfl, hb3⟩
      have S3 := Lib.hid (S.out.below hb3)
      clear hb3
      go_wp2
      go_ret
      exact ⟨rfl, bel_trans BW.out S3.out.bel⟩
end Go.Proofs.Ytfknefpfekjnnaa
