/- An answer that isn't taken changes nothing, but a kiss. -/
import Derived.Test.YtfknefpfekjnnaaLaw
import Derived.BigQuiet
import Derived.Lib.QuietBelow
namespace Go.Proofs.Ytfknefpfekjnnaa
open Go.RowKit

theorem regrown_pe {w : World} {p b : Nat} {k : Pr} (h : Pe w p b k) (d : Nat) (os : Array Obj) : Pe (Sort.grow (redrawn w d) os) p b k := h.below (below_regrown w d os)
theorem same_below {P : Program} {n : Nat} {vs : Array Value} {v : Value} {w : World} (h : Calls P n vs w fun e w' => e = .returned v ∧ w = w') : Calls P n vs w fun e w' => e = .returned v ∧ Below w.heap.size w w' := h.mono fun _ _ h => ⟨h.1, by rw [h.2]; exact Below.refl _ _⟩
/-- What a peer is behind its first query, at 0. -/
def kq (l m d c x : Int) : Pr := ⟨l, m, d, l, 0, 1, 0, 0, c, x⟩
def kg (l m d c x : Int) : Pr := ⟨l, m, d, l, 0, 0, l * 1000000000, 0, c, x⟩
theorem kq_ok {l m d c x : Int} (h1 : 4 ≤ l) (h2 : l ≤ m) (h3 : m ≤ 1024) (h4 : 1 ≤ d) (h5 : d ≤ 1000 * l - 2000) (h6 : -9223372036854775808 ≤ c) (h7 : c ≤ 9223372036854775807) (h8 : 0 ≤ x) (h9 : x ≤ 18446744073709551615) : (kq l m d c x).Ok := by
  constructor <;> simp only [kq] <;> first | omega | simp
theorem kq_good (l m d c x : Int) : (kq l m d c x).good = kg l m d c x := by
  unfold Pr.good kq kg; simp
theorem kq_next {l m d c x : Int} (h1 : l ≤ m) (h3 : m ≤ 1024) (h5 : d ≤ 1000 * l - 2000) : (kq l m d c x).next = d * 1000000 + 1 := by
  unfold Pr.next Pr.last kq; simp only; rw [if_neg (by decide), if_pos trivial]; omega
theorem kg_next {l m d c x : Int} (h1 : l ≤ m) (h3 : m ≤ 1024) : (kg l m d c x).next = l * 1000000000 := by
  unfold Pr.next kg; simp only; rw [if_pos trivial]; omega
theorem kq_why {l m d c x h : Int} (zs : List Int) (hh : h ≤ d * 1000000) : (kq l m d c x).ansY h zs = lookW x zs := by
  unfold Pr.ansY Pr.why
  have : (kq l m d c x).isLate h = false := by unfold Pr.isLate Pr.last kq; simp only; exact decide_eq_false (by omega)
  rw [if_neg (show ¬ (kq l m d c x).st = 2 from (by decide : ¬ (1 : Int) = 2)), if_neg (show ¬ (kq l m d c x).st = 0 from (by decide : ¬ (1 : Int) = 0)), this, if_neg (by simp)]
  rfl
theorem new_ask {l m d ck : Int} (h : ck ≠ 0) : Pr.askE ⟨l, m, d, l, 0, 0, 0, 0, 0, 0⟩ 0 ck = 0 := by
  unfold Pr.askE
  rw [if_neg (by decide), if_neg (by simp [Pr.isDue]), if_neg h]
set_option maxRecDepth 100000 in
set_option maxHeartbeats 8000000 in
theorem walk_kept (u : Value) (c : Cfg) (A : Option Addr) (len cap : Nat) (zs : List Int) (a0 a1 a2 : Int) (w : World) (hc : CfIn w u c) (hz : Bytes w A len cap zs)
    (b0 : -9223372036854775808 ≤ a0 ∧ a0 ≤ 9223372036854775807) (b1 : -9223372036854775808 ≤ a1 ∧ a1 ≤ 9223372036854775807) :
    Calls Try.prog 6 #[cval u c, .slice A len cap, .agg #[.int .i64 a0, .int .i64 a1, .int .i64 a2]] w fun e w' => e = .returned (.bool true) ∧ Below w.heap.size w w' := by
  obtain ⟨ck, hck⟩ : ∃ ck, IntKind.u64.wrap a2 = ck := ⟨_, rfl⟩
  have hk1 : 0 ≤ ck ∧ ck ≤ 18446744073709551615 := by rw [← hck, IntKind.wrap_u64]; omega
  have KA := Lib.hid (fun w => alive_any w)
  obtain ⟨B, cp, hu, hcp⟩ := hc.S.len
  have hlenm := hc.len
  have hlz := hz.1
  have HZ := Lib.hid hz
  have KN := Lib.hid (fun W (h : Below w.heap.size w W) (e : pnewE c 0 = 0) => pnew_ok u c W (hc.S.below h (Nat.le_refl _)) 0 e)
  have KB := Lib.hid (fun W (h : Below w.heap.size w W) (e : pnewE c 0 ≠ 0) => pnew_bad u c W (hc.S.below h (Nat.le_refl _)) 0 e)
  have HN : Hid (pnewE c 0 = 0 → (4 ≤ c.l ∧ c.l ≤ 1024) ∧ (c.l ≤ c.m ∧ c.m ≤ 1024) ∧ (1 ≤ c.d ∧ c.d ≤ 1000 * c.l - 2000) ∧ c.S.length ≤ 16) := fun e => nums_of (pnewE_ok e).1
  clear hc hz
  subst hu
  obtain ⟨S, q, l, m, d, s⟩ := c
  simp only [Pr.new] at *
  generalize pnewE (Cfg.mk S q l m d s) 0 = E at *
  unfold cval at *
  simp only at *
  generalize S.length = N at *
  have BW := Lib.hid (bel_trans (bel_alloc w (.cells #[.slice B N cp, .int .i64 q, .int .i64 l, .int .i64 m, .int .i64 d, .int .i64 s] 24)) (bel_alloc _ (.cells #[.int .i64 a0, .int .i64 a1, .int .i64 a2] 61)))
  by_cases hg : 50 < N ∨ 500 < len ∨ ck = 0
  · clear KN KB HN HZ b0 b1 hk1
    by_cases g1 : 50 < N
    · have hd : decide ((50 : Int) < (N : Int)) = true := decide_eq_true (by omega)
      go_enter Try.func6, Try.ntmps6
      go_wp2_with fail
      refine (KA.out _).mono ?_
      rintro e w1 ⟨rfl, hb1⟩
      have HB := Lib.hid (bel_trans BW.out hb1)
      clear hb1
      go_wp2
      go_ret
      exact ⟨rfl, HB.out⟩
    have hd : decide ((50 : Int) < (N : Int)) = false := decide_eq_false (by omega)
    by_cases g2 : 500 < len
    · have hd2 : decide ((500 : Int) < (len : Int)) = true := decide_eq_true (by omega)
      go_enter Try.func6, Try.ntmps6
      go_wp2_with fail
      refine (KA.out _).mono ?_
      rintro e w1 ⟨rfl, hb1⟩
      have HB := Lib.hid (bel_trans BW.out hb1)
      clear hb1
      go_wp2
      go_ret
      exact ⟨rfl, HB.out⟩
    have hd2 : decide ((500 : Int) < (len : Int)) = false := decide_eq_false (by omega)
    obtain rfl : ck = 0 := by omega
    go_enter Try.func6, Try.ntmps6
    go_wp2_with fail
    refine (KA.out _).mono ?_
    rintro e w1 ⟨rfl, hb1⟩
    have HB := Lib.hid (bel_trans BW.out hb1)
    clear hb1
    go_wp2
    go_ret
    exact ⟨rfl, HB.out⟩
  have hd : decide ((50 : Int) < (N : Int)) = false := decide_eq_false (by omega)
  have hd2 : decide ((500 : Int) < (len : Int)) = false := decide_eq_false (by omega)
  have hd3 : (ck == 0) = false := by simp; omega
  by_cases he : E = 0
  rotate_left
  · have he2 : (E == 0) = false := by simp [he]
    have KB1 := Lib.hid (KB.out _ BW.out he)
    clear KN KB HN HZ b0 b1 hk1
    go_enter Try.func6, Try.ntmps6
    go_wp2_with fail
    refine KB1.out.mono ?_
    rintro e w1 ⟨rfl, hb1⟩
    have HB := Lib.hid (bel_trans BW.out hb1)
    clear hb1
    go_wp2_with fail
    refine (KA.out _).mono ?_
    rintro e w2 ⟨rfl, hb2⟩
    have HB2 := Lib.hid (bel_trans HB.out hb2)
    clear hb2
    go_wp2
    go_ret
    exact ⟨rfl, HB2.out⟩
  have KN1 := Lib.hid (KN.out _ BW.out he)
  obtain ⟨⟨l1, l2⟩, ⟨m1, m2⟩, ⟨d1, d2⟩, _⟩ := HN.out he
  have hkq : Hid ((kq l m d a0 ck).Ok) := kq_ok l1 m1 m2 d1 d2 b0.1 b0.2 hk1.1 hk1.2
  have KQ := Lib.hid (fun p b W (h : Pe W p b ⟨l, m, d, l, 0, 0, 0, 0, 0, 0⟩) => ask_ok p b _ W h 0 a0 ck (new_ask (by omega)) hk1.1 hk1.2)
  rw [show Pr.ask ⟨l, m, d, l, 0, 0, 0, 0, 0, 0⟩ 0 a0 ck = kq l m d a0 ck from rfl] at KQ
  have KX := Lib.hid (fun p b W (h : Pe W p b (kq l m d a0 ck)) => pnext_any p b _ W h hkq.out)
  rw [kq_next m1 m2 d2] at KX
  have KL := Lib.hid (fun W (h : Below w.heap.size w W) => look_any A len cap zs ck W (bytes_below HZ.out h))
  have KW := Lib.hid (fun p b W (hp : Pe W p b (kq l m d a0 ck)) (h : Below w.heap.size w W) => panswer_any p b _ W hp hkq.out 0 a1 0 b1.1 b1.2 A len cap zs (bytes_below HZ.out h))
  unfold Pr.smp Pr.ans at KW
  rw [kq_why zs (by omega), kq_good] at KW
  have hw : IntKind.i64.wrap (l * 1000000000) = l * 1000000000 := IntWalk.i64_in _ (by omega)
  have hgn : Hid ((kg l m d a0 ck).next = l * 1000000000) := kg_next m1 m2
  have hgo : Hid ((kg l m d a0 ck).Ok) := by have := hkq.out.good; rw [kq_good] at this; exact this
  have hxo : Hid ((kq l m d a0 ck).kiss.Ok) := hkq.out.kiss
  have HCB := Lib.hid (show Cb ((w.alloc (.cells #[.slice B N cp, .int .i64 q, .int .i64 l, .int .i64 m, .int .i64 d, .int .i64 s] 24)).alloc (.cells #[.int .i64 a0, .int .i64 a1, .int .i64 a2] 61)) w.heap.size (.slice B N cp) ⟨S, q, l, m, d, s⟩ from by unfold Cb; rw [Below.heap_alloc _ _ _ (by simp)]; exact heap_alloc_new w _)
  generalize lookW ck zs = y at *
  generalize lookP ck zs = pq at *
  clear KN KB HN HZ b0 hk1 l1 l2 m1 m2 d1 d2 he hg hlenm hlz hcp
  go_enter Try.func6, Try.ntmps6
  go_wp2_with fail
  refine KN1.out.mono ?_
  rintro e w1 ⟨p, b, rfl, hp, hb, hpe, hb1⟩
  obtain ⟨W0, hW0⟩ : ∃ W0, W0 = ((w.alloc (.cells #[.slice B N cp, .int .i64 q, .int .i64 l, .int .i64 m, .int .i64 d, .int .i64 s] 24)).alloc (.cells #[.int .i64 a0, .int .i64 a1, .int .i64 a2] 61)) := ⟨_, rfl⟩
  have n0 : W0.cell? ⟨w.heap.size + 1, 0, none⟩ = some (.int .i64 a0) := by rw [hW0]; simp
  have n1 : W0.cell? ⟨w.heap.size + 1, 1, none⟩ = some (.int .i64 a1) := by rw [hW0]; simp
  have HNN := Lib.hid (And.intro n0 n1)
  rw [← hW0] at hp hb hb1 HCB BW
  have S1 := Lib.hid (Sp.start hb1 hp hb hpe)
  have c0 := S1.out.cell HNN.out.1
  have KQ1 := Lib.hid (KQ.out p b w1 S1.out.pe)
  clear hp hb hpe hb1 hW0 n0 n1 KN1 KQ
  go_wp2_with fail
  refine KQ1.out.mono ?_
  rintro e w2 ⟨g, cp2, rfl, hgs, hbz, hpe, hb2⟩
  have S2 := Lib.hid (S1.out.two hpe (Two.of_but' hb2))
  clear hgs hbz hpe hb2 S1 KQ1 c0
  have KX1 := Lib.hid (KX.out p b w2 S2.out.pe)
  go_wp2_with fail
  refine KX1.out.mono ?_
  rintro e w3 ⟨rfl, hb3⟩
  have S3 := Lib.hid (S2.out.below hb3)
  clear hb3 S2 KX1
  have KL1 := Lib.hid (KL.out w3 (bel_trans BW.out S3.out.bel))
  go_wp2_with fail
  refine KL1.out.mono ?_
  rintro e w4 ⟨rfl, hb4⟩
  have S4 := Lib.hid (S3.out.below (bel_trans hb4 (bel_alloc w4 (.cells pq.arr 57))))
  have c1 := S4.out.cell HNN.out.2
  clear hb4 KL KL1 S3
  have KW1 := Lib.hid (KW.out p b _ S4.out.pe (bel_trans BW.out S4.out.bel))
  go_wp2_with fail
  refine KW1.out.mono ?_
  rintro e w5 ⟨rfl, hpe, hb5⟩
  have S5 := Lib.hid (S4.out.two hpe hb5)
  clear hpe hb5 KW KW1 S4 c1 HNN
  by_cases y8 : y = 8
  · subst y8
    rw [if_pos rfl] at S5
    rw [if_neg (by decide)] at *
    have S6 := Lib.hid (S5.out.below (bel_alloc w5 (.cells (smp 0 0 0 0) 47)))
    have KQ2 := Lib.hid (ask_bad p b _ _ S6.out.pe 4611686018427387903 0 5 (by unfold Pr.askE; rw [if_neg (by decide), if_pos (by simp [Pr.isDue, Pr.kiss])]; decide))
    rw [show (kq l m d a0 ck).kiss.askE 4611686018427387903 5 = 9 by unfold Pr.askE; rw [if_neg (by decide), if_pos (by simp [Pr.isDue, Pr.kiss])]] at KQ2
    go_wp2_with fail
    refine KQ2.out.mono ?_
    rintro e w6 ⟨rfl, rfl⟩
    have KA1 := Lib.hid (KA.out (w5.alloc (.cells (smp 0 0 0 0) 47)))
    clear KQ2 S5
    go_wp2_with fail
    refine KA1.out.mono ?_
    rintro e w7 ⟨rfl, hb7⟩
    have S7 := Lib.hid (S6.out.below hb7)
    have K1 := Lib.hid (state_any p b _ w7 S7.out.pe)
    rw [show (kq l m d a0 ck).kiss.st = 2 from rfl] at K1
    have K2 := Lib.hid (plate_no p b _ w7 S7.out.pe hxo.out 4611686018427387903 (by simp [Pr.isLate, Pr.kiss]))
    clear hb7 KA1 S6
    go_wp2_with fail
    refine K1.out.mono ?_
    rintro e w8 ⟨rfl, rfl⟩
    go_wp2_with fail
    refine K2.out.mono ?_
    rintro e w8 ⟨rfl, hb8⟩
    have S8 := Lib.hid (S7.out.below hb8)
    have K3 := Lib.hid (pnext_any p b _ w8 S8.out.pe hxo.out)
    rw [show (kq l m d a0 ck).kiss.next = 4611686018427387903 from rfl] at K3
    clear hb8 S7 K1 K2
    go_wp2_with fail
    refine K3.out.mono ?_
    rintro e w9 ⟨rfl, hb9⟩
    have S9 := Lib.hid (S8.out.below hb9)
    clear hb9 S8 K3
    go_wp2
    go_ret
    exact ⟨rfl, bel_trans BW.out S9.out.bel⟩
  have g8 : (y == 8) = false := by simp [y8]
  rw [if_neg y8] at S5
  by_cases y0 : y = 0
  · subst y0
    rw [if_pos rfl] at S5
    rw [if_pos rfl] at *
    generalize offs (kq l m d a0 ck).clk a1 _ _ = x1 at *
    generalize tooks (kq l m d a0 ck).clk a1 _ _ = x2 at *
    have S6 := Lib.hid (S5.out.below (bel_alloc w5 (.cells (smp x1 x2 0 0) 47)))
    obtain ⟨f0, f1, f2, f3, f4, f5⟩ := (S6.out.cb HCB.out).cells
    have e2 := fun d os => cell_regrown f2 d os
    have q0 : ∀ d os, Calls Try.prog 10 #[] (Sort.grow (redrawn (w5.alloc (.cells (smp x1 x2 0 0) 47)) d) os) fun e w'' => e = .returned (.bool true) ∧ ∃ p : Regrown, w'' = Sort.grow (redrawn (w5.alloc (.cells (smp x1 x2 0 0) 47)) p.d) p.os := fun d os => Calls.regrown_of (KA.out _)
    have q1 : ∀ d os, Calls Try.prog 22 #[.pointer (some ⟨p, 0, none⟩)] (Sort.grow (redrawn (w5.alloc (.cells (smp x1 x2 0 0) 47)) d) os) fun e w'' => e = .returned (.int .i64 0) ∧ ∃ p : Regrown, w'' = Sort.grow (redrawn (w5.alloc (.cells (smp x1 x2 0 0) 47)) p.d) p.os := fun d os => Calls.regrown_of (same_below (state_any p b _ _ (regrown_pe S6.out.pe d os)))
    have q2 : ∀ d os, Calls Try.prog 24 #[.pointer (some ⟨p, 0, none⟩)] (Sort.grow (redrawn (w5.alloc (.cells (smp x1 x2 0 0) 47)) d) os) fun e w'' => e = .returned (.int .i64 (l * 1000000000)) ∧ ∃ p : Regrown, w'' = Sort.grow (redrawn (w5.alloc (.cells (smp x1 x2 0 0) 47)) p.d) p.os := fun d os => Calls.regrown_of (by have := pnext_any p b _ _ (regrown_pe S6.out.pe d os) hgo.out; rw [hgn.out] at this; exact this)
    have q3 : ∀ d os, Calls Try.prog 23 #[.pointer (some ⟨p, 0, none⟩)] (Sort.grow (redrawn (w5.alloc (.cells (smp x1 x2 0 0) 47)) d) os) fun e w'' => e = .returned (.int .i64 l) ∧ ∃ p : Regrown, w'' = Sort.grow (redrawn (w5.alloc (.cells (smp x1 x2 0 0) 47)) p.d) p.os := fun d os => Calls.regrown_of (same_below (wait_any p b _ _ (regrown_pe S6.out.pe d os)))
    clear f0 f1 f2 f3 f4 f5 S5
    go_wp2_with fail
    refine wp_region_quiet_below (by kernel_rfl) (by kernel_rfl) ?_
    repeat (go_big_quiet_step (first | with_reducible exact q0 _ _ | with_reducible exact q1 _ _ | with_reducible exact q2 _ _ | with_reducible exact q3 _ _))
    refine wpQuiet_nil ?_
    intro w6 hw'
    have hb6 : Below (w5.alloc (.cells (smp x1 x2 0 0) 47)).heap.size (w5.alloc (.cells (smp x1 x2 0 0) 47)) w6 := by
      obtain ⟨⟨dq, osq⟩, hw''⟩ := hw'
      rw [hw'']; exact below_regrown _ dq osq
    have S7 := Lib.hid (S6.out.below hb6)
    clear hw' q0 q1 q2 q3 e2 hb6 S6
    go_wp2
    go_ret
    exact ⟨rfl, bel_trans BW.out S7.out.bel⟩
  · have g0 : (y == 0) = false := by simp [y0]
    rw [if_neg y0] at S5
    rw [if_neg y0] at *
    have S6 := Lib.hid (S5.out.below (bel_alloc w5 (.cells (smp 0 0 0 0) 47)))
    obtain ⟨f0, f1, f2, f3, f4, f5⟩ := (S6.out.cb HCB.out).cells
    have e2 := fun d os => cell_regrown f2 d os
    have q0 : ∀ d os, Calls Try.prog 10 #[] (Sort.grow (redrawn (w5.alloc (.cells (smp 0 0 0 0) 47)) d) os) fun e w'' => e = .returned (.bool true) ∧ ∃ p : Regrown, w'' = Sort.grow (redrawn (w5.alloc (.cells (smp 0 0 0 0) 47)) p.d) p.os := fun d os => Calls.regrown_of (KA.out _)
    have q1 : ∀ d os, Calls Try.prog 22 #[.pointer (some ⟨p, 0, none⟩)] (Sort.grow (redrawn (w5.alloc (.cells (smp 0 0 0 0) 47)) d) os) fun e w'' => e = .returned (.int .i64 1) ∧ ∃ p : Regrown, w'' = Sort.grow (redrawn (w5.alloc (.cells (smp 0 0 0 0) 47)) p.d) p.os := fun d os => Calls.regrown_of (same_below (state_any p b _ _ (regrown_pe S6.out.pe d os)))
    have q2 : ∀ d' os, Calls Try.prog 24 #[.pointer (some ⟨p, 0, none⟩)] (Sort.grow (redrawn (w5.alloc (.cells (smp 0 0 0 0) 47)) d') os) fun e w'' => e = .returned (.int .i64 (d * 1000000 + 1)) ∧ ∃ p : Regrown, w'' = Sort.grow (redrawn (w5.alloc (.cells (smp 0 0 0 0) 47)) p.d) p.os := fun d' os => Calls.regrown_of (KX.out p b _ (regrown_pe S6.out.pe d' os))
    have q3 : ∀ d os, Calls Try.prog 23 #[.pointer (some ⟨p, 0, none⟩)] (Sort.grow (redrawn (w5.alloc (.cells (smp 0 0 0 0) 47)) d) os) fun e w'' => e = .returned (.int .i64 l) ∧ ∃ p : Regrown, w'' = Sort.grow (redrawn (w5.alloc (.cells (smp 0 0 0 0) 47)) p.d) p.os := fun d os => Calls.regrown_of (same_below (wait_any p b _ _ (regrown_pe S6.out.pe d os)))
    clear f0 f1 f2 f3 f4 f5 S5
    go_wp2_with fail
    refine wp_region_quiet_below (by kernel_rfl) (by kernel_rfl) ?_
    repeat (go_big_quiet_step (first | with_reducible exact q0 _ _ | with_reducible exact q1 _ _ | with_reducible exact q2 _ _ | with_reducible exact q3 _ _))
    refine wpQuiet_nil ?_
    intro w6 hw'
    have hb6 : Below (w5.alloc (.cells (smp 0 0 0 0) 47)).heap.size (w5.alloc (.cells (smp 0 0 0 0) 47)) w6 := by
      obtain ⟨⟨dq, osq⟩, hw''⟩ := hw'
      rw [hw'']; exact below_regrown _ dq osq
    have S7 := Lib.hid (S6.out.below hb6)
    clear hw' q0 q1 q2 q3 e2 hb6 S6
    go_wp2
    go_ret
    exact ⟨rfl, bel_trans BW.out S7.out.bel⟩
end Go.Proofs.Ytfknefpfekjnnaa
