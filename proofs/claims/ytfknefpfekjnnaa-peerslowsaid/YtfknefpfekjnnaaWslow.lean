/- A good answer is taken until its patience ends, and not a nanosecond later. -/
import Derived.Test.YtfknefpfekjnnaaWkept
namespace Go.Proofs.Ytfknefpfekjnnaa
open Go.RowKit

theorem good_why {c r x : Int} (hc : U64 c) (h0 : c ≠ 0) (hr : U64 r) (hr0 : r ≠ 0) (hx : U64 x) (hx0 : x ≠ 0) : lookW c (good c r x).bytes = 0 := by
  have e := pkOf_bytes (good c r x) [] (good_in c r x hc hr hx) (good_fits c r x)
  rw [List.append_nil] at e
  unfold lookW
  rw [if_neg (by rw [Pk.bytes_length]; decide), e]
  simp [whyOf, tests, whyL, good, h0, hr0, hx0]
theorem good_bytes {c r x : Int} (hc : U64 c) (hr : U64 r) (hx : U64 x) (w : World) : Calls Try.prog 17 #[.int .u64 c, .int .u64 r, .int .u64 x] w fun e w' => ∃ g cp, e = .returned (.slice (some ⟨g, 0, none⟩) 48 cp) ∧ w.heap.size ≤ g ∧ Bytes w' (some ⟨g, 0, none⟩) 48 cp (good c r x).bytes ∧ Below w.heap.size w w' := by
  refine (good_any c r x w hc hr hx).mono ?_
  rintro e w' ⟨g, cp, rfl, h1, h2, h3, h4, h5, h6⟩
  exact ⟨g, cp, rfl, h1, ⟨(good c r x).bytes_length, h3, h4, (good c r x).bytes_all (good_in c r x hc hr hx) (good_fits c r x), fun _ => ⟨g, 0, rfl, h2, h5⟩, fun e => by cases e⟩, h6⟩
theorem bytes_two {w w' : World} {g o n cp p b : Nat} {zs : List Int} (h : Bytes w (some ⟨g, o, none⟩) n cp zs) (ht : Two p b w w') (h1 : g ≠ p) (h2 : g ≠ b) : Bytes w' (some ⟨g, o, none⟩) n cp zs := by
  obtain ⟨hl, hlc, hcm, hall, hat, hn⟩ := h
  refine ⟨hl, hlc, hcm, hall, fun h0 => ?_, hn⟩
  obtain ⟨g', o', he, hg, hh⟩ := hat h0
  injection he with he
  injection he with e1 e2
  subst e1 e2
  refine ⟨g, o, rfl, Nat.lt_of_lt_of_le hg ht.size, fun t ht' => ?_⟩
  have := hh t ht'
  unfold World.cell? at this ⊢
  rw [ht.block g hg h1 h2]
  exact this
/-- Two peers of the walk's own. -/
structure Sq (w wi : World) (p b : Nat) (k : Pr) (q e : Nat) (j : Pr) : Prop where
  s : Sp w wi p b k
  qe : Pe wi q e j
  q1 : w.heap.size ≤ q
  q2 : w.heap.size ≤ e
  n1 : p ≠ q
  n2 : p ≠ e
  n3 : b ≠ q
  n4 : b ≠ e
section
variable {w wi wj : World} {p b : Nat} {k k' : Pr} {q e : Nat} {j j' : Pr}
theorem Sq.below (h : Sq w wi p b k q e j) (hb : Below wi.heap.size wi wj) : Sq w wj p b k q e j := ⟨h.s.below hb, h.qe.below hb, h.q1, h.q2, h.n1, h.n2, h.n3, h.n4⟩
theorem Sq.fst (h : Sq w wi p b k q e j) (hp : Pe wj p b k') (ht : Two p b wi wj) : Sq w wj p b k' q e j := ⟨h.s.two hp ht, h.qe.two ht h.n1.symm h.n3.symm h.n2.symm h.n4.symm, h.q1, h.q2, h.n1, h.n2, h.n3, h.n4⟩
theorem Sq.snd (h : Sq w wi p b k q e j) (hp : Pe wj q e j') (ht : Two q e wi wj) : Sq w wj p b k q e j' := ⟨⟨h.s.pe.two ht h.n1 h.n2 h.n3 h.n4, h.s.bel.trans (ht.below h.s.bel.size h.q1 h.q2), h.s.op, h.s.ob⟩, hp, h.q1, h.q2, h.n1, h.n2, h.n3, h.n4⟩
end
theorem Sq.start {w w1 w2 : World} {p b : Nat} {k : Pr} {q e : Nat} {j : Pr} (h : Sp w w1 p b k) (hb : Below w1.heap.size w1 w2) (hq : w1.heap.size ≤ q) (he : w1.heap.size ≤ e) (hj : Pe w2 q e j) : Sq w w2 p b k q e j := by
  have h1 := h.pe.lt
  have h2 := h.pe.bk.lt
  exact ⟨h.below hb, hj, Nat.le_trans h.bel.size hq, Nat.le_trans h.bel.size he, by omega, by omega, by omega, by omega⟩
def kn (l m d : Int) : Pr := ⟨l, m, d, l, 0, 0, 0, 0, 0, 0⟩
theorem kn_ask (l m d c x : Int) : (kn l m d).ask 0 c x = kq l m d c x := rfl
def kf (l m d c x u : Int) : Pr := ⟨l, m, d, u, 1, 0, u * 1000000000, 0, c, x⟩
theorem kq_fail {l m d c x : Int} : (kq l m d c x).fail = kf l m d c x (nx l m) := by
  unfold Pr.fail kq kf; simp
theorem kq_late {l m d c x h : Int} (hh : d * 1000000 < h) : (kq l m d c x).isLate h = true := by unfold Pr.isLate Pr.last kq; simp only; exact decide_eq_true (by first | exact ⟨rfl, by omega⟩ | exact ⟨trivial, by omega⟩)
theorem kq_slow {l m d c x h : Int} (zs : List Int) (hh : d * 1000000 < h) (hy : lookW x zs = 0) : (kq l m d c x).ansY h zs = 12 := by
  unfold Pr.ansY Pr.why
  rw [if_neg (show ¬ (kq l m d c x).st = 2 from (by decide : ¬ (1 : Int) = 2)), if_neg (show ¬ (kq l m d c x).st = 0 from (by decide : ¬ (1 : Int) = 0)), kq_late hh, if_pos ⟨hy, rfl⟩]
set_option maxRecDepth 100000 in
set_option maxHeartbeats 1000000 in
theorem walk_slow (u : Value) (c : Cfg) (by_ ck : Int) (w : World) (hc : CfIn w u c) (h1 : 0 ≤ by_) (h2 : by_ ≤ 4294967295) (k1 : 0 ≤ ck) (k2 : ck ≤ 18446744073709551615) :
    Calls Try.prog 9 #[cval u c, .int .u32 by_, .int .u64 ck] w fun e w' => e = .returned (.bool true) ∧ Below w.heap.size w w' := by
  have KA := Lib.hid (fun w => alive_any w)
  obtain ⟨B, cp, hu, hcp⟩ := hc.S.len
  have KN := Lib.hid (fun W (h : Below w.heap.size w W) (e : pnewE c 0 = 0) => pnew_ok u c W (hc.S.below h (Nat.le_refl _)) 0 e)
  have KB := Lib.hid (fun W (h : Below w.heap.size w W) (e : pnewE c 0 ≠ 0) => pnew_bad u c W (hc.S.below h (Nat.le_refl _)) 0 e)
  have HN : Hid (pnewE c 0 = 0 → (4 ≤ c.l ∧ c.l ≤ 1024) ∧ (c.l ≤ c.m ∧ c.m ≤ 1024) ∧ (1 ≤ c.d ∧ c.d ≤ 1000 * c.l - 2000) ∧ c.S.length ≤ 16) := fun e => nums_of (pnewE_ok e).1
  clear hc
  subst hu
  obtain ⟨S, q, l, m, d, s⟩ := c
  simp only [Pr.new] at *
  generalize pnewE (Cfg.mk S q l m d s) 0 = E at *
  unfold cval at *
  simp only at *
  have hNN : Hid (Cb (w.alloc (.cells #[.slice B S.length cp, .int .i64 q, .int .i64 l, .int .i64 m, .int .i64 d, .int .i64 s] 24)) w.heap.size (.slice B S.length cp) ⟨S, q, l, m, d, s⟩) := heap_alloc_new w _
  unfold Cb at hNN
  simp only at hNN
  generalize S.length = N at *
  have BW := Lib.hid (bel_alloc w (.cells #[.slice B N cp, .int .i64 q, .int .i64 l, .int .i64 m, .int .i64 d, .int .i64 s] 24))
  by_cases he : E = 0
  rotate_left
  · have he2 : (E == 0) = false := by simp [he]
    have KB1 := Lib.hid (KB.out _ BW.out he)
    go_enter Try.func9, Try.ntmps9
    go_wp2_with fail
    refine KB1.out.mono ?_
    rintro e w1 ⟨rfl, hb1⟩
    have HB := Lib.hid (bel_trans BW.out hb1)
    have KB2 := Lib.hid (KB.out _ HB.out he)
    obtain ⟨f0, f1, f2, f3, f4, f5⟩ := six_cells ((hb1.block _ (heap_lt hNN.out)).trans hNN.out)
    clear hb1 KB KN HN KB1
    go_wp2_with fail
    refine KB2.out.mono ?_
    rintro e w2 ⟨rfl, hb2⟩
    have HB2 := Lib.hid (bel_trans HB.out hb2)
    clear hb2 KB2 f0 f1 f2 f3 f4 f5
    go_wp2_with fail
    refine (KA.out _).mono ?_
    rintro e w3 ⟨rfl, hb3⟩
    have HB3 := Lib.hid (bel_trans HB2.out hb3)
    clear hb3
    go_wp2_with fail
    refine (KA.out _).mono ?_
    rintro e w4 ⟨rfl, hb4⟩
    have HB4 := Lib.hid (bel_trans HB3.out hb4)
    clear hb4
    go_wp2
    go_ret
    exact ⟨rfl, HB4.out⟩
  have KNN := Lib.hid (fun W (h : Below w.heap.size w W) => KN.out W h he)
  have KN1 := Lib.hid (KN.out _ BW.out he)
  obtain ⟨⟨l1, l2⟩, ⟨m1, m2⟩, ⟨d1, d2⟩, n16⟩ := HN.out he
  have hd : decide ((50 : Int) < (N : Int)) = false := decide_eq_false (by omega)
  have hkq : Hid ((kq l m d 0 ck).Ok) := kq_ok l1 m1 m2 d1 d2 (by decide) (by decide) k1 k2
  have hw1 : IntKind.i64.wrap (d * 1000000) = d * 1000000 := IntWalk.i64_in _ (by omega)
  have hw2 : IntKind.i64.wrap (d * 1000000 + 1) = d * 1000000 + 1 := IntWalk.i64_in _ (by omega)
  have hw3 : IntKind.i64.wrap by_ = by_ := IntWalk.i64_in _ (by omega)
  have hw4 : IntKind.i64.wrap (d * 1000000 + 1 + by_) = d * 1000000 + 1 + by_ := IntWalk.i64_in _ (by omega)
  have hw5 : IntKind.i64.wrap (2 * l) = 2 * l := IntWalk.i64_in _ (by omega)
  have hnx0 : nx l m = if m < 2 * l then m else 2 * l := nx_in (by omega) (by omega) (by omega) (by omega)
  obtain ⟨x7, hx7⟩ : ∃ x7, (if m < 2 * l then m else 2 * l) = x7 := ⟨_, rfl⟩
  have hnx : nx l m = x7 := hnx0.trans hx7
  clear hnx0
  have KQ := Lib.hid (fun (hk : ck ≠ 0) p b W (h : Pe W p b (kn l m d)) => ask_ok p b _ W h 0 0 ck (new_ask hk) k1 k2)
  rw [kn_ask] at KQ
  have KG := Lib.hid (fun w => good_bytes (c := ck) (r := 9) (x := 9) ⟨k1, k2⟩ ⟨by decide, by decide⟩ ⟨by decide, by decide⟩ w)
  have hwhy : Hid (ck ≠ 0 → lookW ck (good ck 9 9).bytes = 0) := fun hk => good_why ⟨k1, k2⟩ hk ⟨by decide, by decide⟩ (by decide) ⟨by decide, by decide⟩ (by decide)
  generalize (good ck 9 9).bytes = zs at *
  have KS : Hid (∀ (hk : ck ≠ 0) p b W g cp (h : Pe W p b (kq l m d 0 ck)) (hz : Bytes W (some ⟨g, 0, none⟩) 48 cp zs), Calls Try.prog 18 #[.pointer (some ⟨p, 0, none⟩), .int .i64 (d * 1000000 + 1 + by_), .int .i64 0, .int .i64 0, .slice (some ⟨g, 0, none⟩) 48 cp] W fun e w' => e = .returned (.tuple #[.agg (smp 0 0 0 0), .int .i64 12]) ∧ Pe w' p b (kq l m d 0 ck) ∧ Two p b W w') := by
    intro hk p b W g cp h hz
    have := panswer_any p b _ W h hkq.out (d * 1000000 + 1 + by_) 0 0 (by decide) (by decide) _ 48 cp zs hz
    unfold Pr.smp Pr.ans at this
    rw [kq_slow zs (by omega) (hwhy.out hk), if_neg (by decide), if_neg (by decide), if_neg (by decide)] at this
    exact this
  have KL := Lib.hid (fun p b W (h : Pe W p b (kq l m d 0 ck)) => plate_yes p b _ W h hkq.out (by simp [kq]) (d * 1000000 + 1 + by_) (kq_late (by omega)))
  rw [kq_fail, hnx] at KL
  clear hnx
  obtain ⟨y3, hy3⟩ : ∃ y3, (if by_ < d * 1000000 then by_ else d * 1000000) = y3 := ⟨_, rfl⟩
  have hy4 : y3 ≤ d * 1000000 := by rw [← hy3]; split <;> omega
  have KT : Hid (∀ (hk : ck ≠ 0) p b W g cp (h : Pe W p b (kq l m d 0 ck)) (hz : Bytes W (some ⟨g, 0, none⟩) 48 cp zs), Calls Try.prog 18 #[.pointer (some ⟨p, 0, none⟩), .int .i64 y3, .int .i64 0, .int .i64 0, .slice (some ⟨g, 0, none⟩) 48 cp] W fun e w' => ∃ o1 o2 o3, e = .returned (.tuple #[.agg (smp o1 o2 o3 0), .int .i64 0]) ∧ Pe w' p b (kg l m d 0 ck) ∧ Two p b W w') := by
    intro hk p b W g cp h hz
    have := panswer_any p b _ W h hkq.out y3 0 0 (by decide) (by decide) _ 48 cp zs hz
    unfold Pr.smp Pr.ans at this
    rw [kq_why zs (by omega), hwhy.out hk, if_pos rfl, if_neg (by decide), if_pos rfl, kq_good] at this
    exact this.mono fun _ _ h => ⟨_, _, _, h⟩
  have KU : Hid (∀ p b W (v : Value) (u : Int) (_ : Pe W p b (kf l m d 0 ck u)), Calls Try.prog 18 #[.pointer (some ⟨p, 0, none⟩), .int .i64 (d * 1000000 + 1 + by_), .int .i64 0, .int .i64 0, v] W fun e w' => e = .returned (.tuple #[.agg (smp 0 0 0 0), .int .i64 4]) ∧ Below W.heap.size W w') := fun p b W v u h => panswer_no p b _ W h (d * 1000000 + 1 + by_) 0 0 v (.inl rfl)
  clear KN KB HN he hwhy hkq hy4 k1 k2 l1 l2 m1 m2 d1 d2 n16 h1 h2 hcp
  go_enter Try.func9, Try.ntmps9
  go_wp2_with fail
  refine KN1.out.mono ?_
  rintro e w1 ⟨p, b, rfl, hp, hb, hpe, hb1⟩
  obtain ⟨W0, hW0⟩ : ∃ W0, W0 = w.alloc (.cells #[.slice B N cp, .int .i64 q, .int .i64 l, .int .i64 m, .int .i64 d, .int .i64 s] 24) := ⟨_, rfl⟩
  rw [← hW0] at hp hb hb1 hNN BW KN1
  have S1 := Lib.hid (Sp.start hb1 hp hb hpe)
  have HC1 := Lib.hid ((S1.out.bel.block _ (heap_lt hNN.out)).trans hNN.out)
  obtain ⟨f0, f1, f2, f3, f4, f5⟩ := six_cells HC1.out
  have KN2 := Lib.hid (KNN.out w1 (bel_trans BW.out S1.out.bel))
  clear hp hb hpe hb1 hW0 KN1 KNN
  go_wp2_with fail
  refine KN2.out.mono ?_
  rintro e w2 ⟨q2, b2, rfl, hp, hb, hpe, hb2⟩
  have S2 := Lib.hid (Sq.start S1.out hb2 hp hb hpe)
  clear hp hb hpe hb2 KN2 S1 f0 f1 f2 f3 f4 f5 HC1
  go_wp2_with fail
  refine (KA.out _).mono ?_
  rintro e w3 ⟨rfl, hb3⟩
  have S3 := Lib.hid (S2.out.below hb3)
  have HC3 := Lib.hid ((S3.out.s.bel.block _ (heap_lt hNN.out)).trans hNN.out)
  obtain ⟨f0, f1, f2, f3, f4, f5⟩ := six_cells HC3.out
  clear hb3 S2
  by_cases hk : ck = 0
  · subst hk
    go_wp2_with fail
    refine (KA.out _).mono ?_
    rintro e w4 ⟨rfl, hb4⟩
    have S4 := Lib.hid (S3.out.below hb4)
    clear hb4
    go_wp2
    go_ret
    exact ⟨rfl, bel_trans BW.out S4.out.s.bel⟩
  have hk0 : (ck == 0) = false := by simp [hk]
  have KQ1 := Lib.hid (KQ.out hk p b w3 S3.out.s.pe)
  go_wp2_with fail
  refine KQ1.out.mono ?_
  rintro e w4 ⟨g, cp2, rfl, hgs, hbz, hpe, hb4⟩
  have S4 := Lib.hid (S3.out.fst hpe (Two.of_but' hb4))
  clear hgs hbz hpe hb4 S3 KQ1 HC3 f0 f1 f2 f3 f4 f5
  have KQ2 := Lib.hid (KQ.out hk q2 b2 w4 S4.out.qe)
  go_wp2_with fail
  refine KQ2.out.mono ?_
  rintro e w5 ⟨g5, cp5, rfl, hgs, hbz, hpe, hb5⟩
  have S5 := Lib.hid (S4.out.snd hpe (Two.of_but' hb5))
  have HC5 := Lib.hid ((S5.out.s.bel.block _ (heap_lt hNN.out)).trans hNN.out)
  obtain ⟨f0, f1, f2, f3, f4, f5⟩ := six_cells HC5.out
  clear hgs hbz hpe hb5 S4 KQ2 KQ
  have KG1 := Lib.hid (KG.out w5)
  go_wp2_with fail
  refine KG1.out.mono ?_
  rintro e w6 ⟨g6, cp6, rfl, hg6, hz6, hb6⟩
  have S6 := Lib.hid (S5.out.below hb6)
  have Z6 := Lib.hid hz6
  have G6 := Lib.hid (show g6 ≠ p ∧ g6 ≠ b ∧ g6 ≠ q2 ∧ g6 ≠ b2 by have h1 := S5.out.s.pe.lt; have h2 := S5.out.s.pe.bk.lt; have h3 := S5.out.qe.lt; have h4 := S5.out.qe.bk.lt; omega)
  clear hb6 hz6 hg6 KG1 KG S5 f0 f1 f2 f3 f4 f5
  have KS1 := Lib.hid (KS.out hk p b w6 g6 cp6 S6.out.s.pe Z6.out)
  go_wp2_with fail
  refine KS1.out.mono ?_
  rintro e w7 ⟨rfl, hpe, hb7⟩
  have S7 := Lib.hid ((S6.out.fst hpe hb7).below (bel_alloc w7 (.cells (smp 0 0 0 0) 47)))
  have Z7 := Lib.hid (bytes_below (bytes_two Z6.out hb7 G6.out.1 G6.out.2.1) (bel_alloc w7 (.cells (smp 0 0 0 0) 47)))
  have K1 := Lib.hid (state_any p b _ _ S7.out.s.pe)
  rw [show (kq l m d 0 ck).st = 1 from rfl] at K1
  clear hpe KS KS1 S6 Z6 hb7
  go_wp2_with fail
  refine K1.out.mono ?_
  rintro e w8 ⟨rfl, rfl⟩
  have KL1 := Lib.hid (KL.out p b _ S7.out.s.pe)
  go_wp2_with fail
  refine KL1.out.mono ?_
  rintro e w8 ⟨rfl, hpe, hb8⟩
  have S8 := Lib.hid (S7.out.fst hpe hb8)
  have Z8 := Lib.hid (bytes_two Z7.out hb8 G6.out.1 G6.out.2.1)
  clear hpe K1 KL KL1 Z7 hb8 S7
  have KU1 := Lib.hid (KU.out p b w8 (.slice (some ⟨g6, 0, none⟩) 48 cp6) _ S8.out.s.pe)
  go_wp2_with fail
  refine KU1.out.mono ?_
  rintro e w9 ⟨rfl, hb9⟩
  have S9 := Lib.hid ((S8.out.below hb9).below (bel_alloc w9 (.cells (smp 0 0 0 0) 47)))
  have Z9 := Lib.hid (bytes_below Z8.out (bel_trans hb9 (bel_alloc w9 (.cells (smp 0 0 0 0) 47))))
  clear hb9 KU KU1 S8 Z8
  have KT1 := Lib.hid (KT.out hk q2 b2 _ g6 cp6 S9.out.qe Z9.out)
  go_wp2_with fail
  refine KT1.out.mono ?_
  rintro e w10 ⟨o1, o2, o3, rfl, hpe, hb10⟩
  have S10 := Lib.hid ((S9.out.snd hpe hb10).below (bel_alloc w10 (.cells (smp o1 o2 o3 0) 47)))
  have HC9 := Lib.hid ((S10.out.s.bel.block _ (heap_lt hNN.out)).trans hNN.out)
  obtain ⟨f0, f1, f2, f3, f4, f5⟩ := six_cells HC9.out
  have e2 := fun d os => cell_regrown f2 d os
  have e3 := fun d os => cell_regrown f3 d os
  have r1 : ∀ d os, Calls Try.prog 22 #[.pointer (some ⟨q2, 0, none⟩)] (Sort.grow (redrawn (w10.alloc (.cells (smp o1 o2 o3 0) 47)) d) os) fun e w'' => e = .returned (.int .i64 0) ∧ ∃ p : Regrown, w'' = Sort.grow (redrawn (w10.alloc (.cells (smp o1 o2 o3 0) 47)) p.d) p.os := fun d os => Calls.regrown_of (same_below (state_any q2 b2 _ _ (regrown_pe S10.out.qe d os)))
  have r2 : ∀ d os, Calls Try.prog 23 #[.pointer (some ⟨p, 0, none⟩)] (Sort.grow (redrawn (w10.alloc (.cells (smp o1 o2 o3 0) 47)) d) os) fun e w'' => e = .returned (.int .i64 x7) ∧ ∃ p : Regrown, w'' = Sort.grow (redrawn (w10.alloc (.cells (smp o1 o2 o3 0) 47)) p.d) p.os := fun d os => Calls.regrown_of (same_below (wait_any p b _ _ (regrown_pe S10.out.s.pe d os)))
  have r3 : ∀ d os, Calls Try.prog 23 #[.pointer (some ⟨q2, 0, none⟩)] (Sort.grow (redrawn (w10.alloc (.cells (smp o1 o2 o3 0) 47)) d) os) fun e w'' => e = .returned (.int .i64 l) ∧ ∃ p : Regrown, w'' = Sort.grow (redrawn (w10.alloc (.cells (smp o1 o2 o3 0) 47)) p.d) p.os := fun d os => Calls.regrown_of (same_below (wait_any q2 b2 _ _ (regrown_pe S10.out.qe d os)))
  clear hpe hb10 f0 f1 f2 f3 f4 f5 HC9 KT KT1 S9 Z9 G6 hd hw1 hw2 hw3 hw4 hy3 KA
  go_wp2_with fail
  refine wp_region_quiet_below (by kernel_rfl) (by kernel_rfl) ?_
  repeat (go_big_quiet_step (first | with_reducible exact r1 _ _ | with_reducible exact r2 _ _ | with_reducible exact r3 _ _))
  refine wpQuiet_nil ?_
  intro w11 hw'
  have hb6 : Below (w10.alloc (.cells (smp o1 o2 o3 0) 47)).heap.size (w10.alloc (.cells (smp o1 o2 o3 0) 47)) w11 := by
    obtain ⟨⟨dq, osq⟩, hw''⟩ := hw'
    rw [hw'']; exact below_regrown _ dq osq
  have S11 := Lib.hid (S10.out.below hb6)
  clear hw' r1 r2 r3 e2 e3 hb6 S10
  go_wp2
  go_ret
  exact ⟨rfl, bel_trans BW.out S11.out.s.bel⟩
end Go.Proofs.Ytfknefpfekjnnaa
