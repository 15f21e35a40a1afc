/- SlewForgets' walk. -/
import Derived.Test.YtnooneejidpdaaaSt
namespace Go.Proofs.Ytnooneejidpdaaa
open Go.RowKit

theorem ok_left {r l : Int} (r1 : 1 ≤ r) (r2 : r ≤ 500) (l1 : -2305843009213693952 ≤ l) (l2 : l ≤ 2305843009213693952) : (Ck.mk r 0 0 l 0).Ok := by
  constructor <;> simp only <;> omega

set_option maxRecDepth 100000 in
set_option maxHeartbeats 4000000 in
theorem walk_forgets (n y0 y1 x : Int) (w : World) (n1 : 0 ≤ n) (n2 : n ≤ 65535) (x1 : 0 ≤ x) (x2 : x ≤ 4294967295) : Calls Try.prog 9 #[.int .u16 n, .agg #[.int .i64 y0, .int .i64 y1], .int .u32 x] w fun e w' => e = .returned (.bool true) ∧ Below w.heap.size w w' := by
  have KR := Lib.hid (fun w => rate_any n w n1 (by omega))
  obtain ⟨r, hr⟩ : ∃ r, r = 1 + n % 500 := ⟨_, rfl⟩
  rw [← hr] at KR
  have r1 : 1 ≤ r := by omega
  have r2 : r ≤ 500 := by omega
  clear hr
  have KN := Lib.hid (fun w => new_ex (w := w) (h := 0) (c := 0) (p := r) ⟨by omega, by omega, by omega, by omega, r1, r2⟩)
  have KL := Lib.hid (fun w => alive_any w)
  have o0 := ok_left (l := 0) r1 r2 (by omega) (by omega)
  obtain ⟨z0, hz0⟩ : ∃ z, z = kept y0 (-2305843009213693952) 2305843009213693952 := ⟨_, rfl⟩
  obtain ⟨z1, hz1⟩ : ∃ z, z = kept y1 (-2305843009213693952) 2305843009213693952 := ⟨_, rfl⟩
  have p0 : -2305843009213693952 ≤ z0 := by rw [hz0]; exact kept_ge (by omega)
  have p1 : z0 ≤ 2305843009213693952 := by rw [hz0]; exact kept_le (by omega)
  have p2 : -2305843009213693952 ≤ z1 := by rw [hz1]; exact kept_ge (by omega)
  have p3 : z1 ≤ 2305843009213693952 := by rw [hz1]; exact kept_le (by omega)
  have o1 := ok_left (l := z0) r1 r2 p0 p1
  have o2 := ok_left (l := z1) r1 r2 p2 p3
  have KA1 := Lib.hid (fun b w hc => adjust_any b ⟨r, 0, 0, 0, 0⟩ 0 w hc o0 y0)
  rw [show (Ck.mk r 0 0 0 0).put 0 y0 = ⟨r, 0, 0, z0, 0⟩ from (put_base o0 y0).trans (by rw [hz0]), show (Ck.mk r 0 0 0 0).err 0 = 0 from rfl] at KA1
  have KA2 := Lib.hid (fun b w hc => adjust_any b ⟨r, 0, 0, z0, 0⟩ 0 w hc o1 y1)
  rw [show (Ck.mk r 0 0 z0 0).put 0 y1 = ⟨r, 0, 0, z1, 0⟩ from (put_base o1 y1).trans (by rw [hz1]), show (Ck.mk r 0 0 z0 0).err 0 = 0 from rfl] at KA2
  have KA3 := Lib.hid (fun b w hc => adjust_any b ⟨r, 0, 0, 0, 0⟩ 0 w hc o0 y1)
  rw [show (Ck.mk r 0 0 0 0).put 0 y1 = ⟨r, 0, 0, z1, 0⟩ from (put_base o0 y1).trans (by rw [hz1]), show (Ck.mk r 0 0 0 0).err 0 = 0 from rfl] at KA3
  have KR1 := Lib.hid (fun b w hc => read_any b ⟨r, 0, 0, z1, 0⟩ x w hc o2)
  have KA4 := Lib.hid (fun b w hc => adjust_any b ⟨r, 0, 0, z1, 0⟩ x w hc o2 0)
  have er : (Ck.mk r 0 0 z1 0).err x = 0 := Ck.err_of (by simp only; omega) (by omega)
  obtain ⟨k, hk⟩ : ∃ k, k = (Ck.mk r 0 0 z1 0).put x 0 := ⟨_, rfl⟩
  have ok := o2.put x 0
  rw [← hk] at ok
  have kh : k.h = x := by rw [hk]; unfold Ck.put; rw [if_pos er]; rfl
  have kl : k.l = 0 := by rw [hk]; unfold Ck.put; rw [if_pos er]; rfl
  have kc : k.c = rd (Ck.mk r 0 0 z1 0) x := by rw [hk]; unfold Ck.put rd; rw [if_pos er, if_pos er]; rfl
  rw [← hk, er] at KA4
  rw [er] at KR1
  have KR2 := Lib.hid (fun b w hc => read_any b k (x + 5000000) w hc ok)
  have KL2 := Lib.hid (fun b w hc => left_any b k x w hc ok)
  have rr := ok.r1
  rw [show rd k (x + 5000000) = rd (Ck.mk r 0 0 z1 0) x + 5000000 from (rd_ok (by omega) (by omega)).trans (by rw [kh, kl, cor_zero _ _ (by omega) (by omega), kc]; omega), Ck.err_of (k := k) (h := x + 5000000) (by omega) (by omega)] at KR2
  rw [show lf k x = 0 from (lf_ok (by omega) (by omega)).trans (by rw [kl, cor_zero _ _ (by omega) (by omega)]; omega), Ck.err_of (k := k) (h := x) (by omega) (by omega)] at KL2
  have a0 := ok.c1
  have a1 := ok.c2
  have a2 := ok.a1
  have a3 := ok.a2
  rw [kc] at a0 a1
  rw [kh] at a1 a2 a3
  generalize rd (Ck.mk r 0 0 z1 0) x = q at *
  have q1 : -9000000000000000000 ≤ q := by omega
  have q2 : q ≤ 9000000000000000000 := by omega
  clear a0 a1 a2 a3 kh kl kc hk ok er o0 o1 o2 hz0 hz1 rr
  go_enter Try.func9, Try.ntmps9
  go_wp2_with fail
  refine (KR.out _).mono ?_
  rintro e w0 ⟨rfl, rfl⟩
  go_wp2_with fail
  refine (KN.out _).mono ?_
  rintro e w1 ⟨b, rfl, hb, hc1, hw1⟩
  have hbox : w1.heap[w.heap.size]? = some (.cells #[.int .i64 y0, .int .i64 y1] 22) := Below.keeps hw1 (heap_alloc_new w _)
  have hs1 : Below w.heap.size w w1 := bel_trans ((Below.refl _ _).alloc (Nat.le_refl _) _) hw1
  have hb' : w.heap.size + 1 ≤ b := by simpa using hb
  have S1 := Lib.hid (And.intro hbox (And.intro hc1 (And.intro hs1 hb')))
  clear hbox hs1 hc1 hw1 hb hb'
  go_wp2_with fail
  refine (KR.out _).mono ?_
  rintro e w0 ⟨rfl, rfl⟩
  go_wp2_with fail
  refine (KN.out _).mono ?_
  rintro e w2 ⟨c, rfl, hb, hc2, hw2⟩
  have S2 := Lib.hid (And.intro (Below.keeps hw2 S1.out.1) (And.intro (S1.out.2.1.below hw2) (And.intro hc2 (And.intro (bel_trans S1.out.2.2.1 hw2) (And.intro S1.out.2.2.2 (Nat.lt_of_lt_of_le S1.out.2.1.lt hb))))))
  clear hc2 hw2 hb S1
  go_wp2_with fail
  refine (KL.out _).mono ?_
  rintro e w3 ⟨rfl, hw3⟩
  have S3 := Lib.hid (And.intro (Below.keeps hw3 S2.out.1) (And.intro (S2.out.2.1.below hw3) (And.intro (S2.out.2.2.1.below hw3) (And.intro (bel_trans S2.out.2.2.2.1 hw3) S2.out.2.2.2.2))))
  clear hw3 S2
  have f0 : w3.cell? ⟨w.heap.size, 0, none⟩ = some (.int .i64 y0) := cell_of_row _ _ 0 _ _ _ S3.out.1
  go_wp2_with fail
  refine (KA1.out _ _ S3.out.2.1).mono ?_
  rintro e w4 ⟨rfl, hc4, hw4⟩
  have S4 := Lib.hid (And.intro (hw4.keeps S3.out.1 (by have := S3.out.2.2.2.2.1; omega)) (And.intro hc4 (And.intro (hw4.clk S3.out.2.2.1 (by have := S3.out.2.2.2.2.2; omega)) (And.intro (bel_but S3.out.2.2.2.1 hw4 (by have := S3.out.2.2.2.2.1; omega)) S3.out.2.2.2.2))))
  clear hw4 hc4 S3 f0
  have f1 : w4.cell? ⟨w.heap.size, 1, none⟩ = some (.int .i64 y1) := cell_of_row _ _ 1 _ _ _ S4.out.1
  go_wp2_with fail
  refine (KA2.out _ _ S4.out.2.1).mono ?_
  rintro e w5 ⟨rfl, hc5, hw5⟩
  have S5 := Lib.hid (And.intro (hw5.keeps S4.out.1 (by have := S4.out.2.2.2.2.1; omega)) (And.intro hc5 (And.intro (hw5.clk S4.out.2.2.1 (by have := S4.out.2.2.2.2.2; omega)) (And.intro (bel_but S4.out.2.2.2.1 hw5 (by have := S4.out.2.2.2.2.1; omega)) S4.out.2.2.2.2))))
  clear hw5 hc5 S4 f1
  have f1 : w5.cell? ⟨w.heap.size, 1, none⟩ = some (.int .i64 y1) := cell_of_row _ _ 1 _ _ _ S5.out.1
  go_wp2_with fail
  refine (KA3.out _ _ S5.out.2.2.1).mono ?_
  rintro e w6 ⟨rfl, hc6, hw6⟩
  have S6 := Lib.hid (And.intro (hw6.clk S5.out.2.1 (by have := S5.out.2.2.2.2.2; omega)) (And.intro hc6 (And.intro (bel_but S5.out.2.2.2.1 hw6 (by have := S5.out.2.2.2.2; omega)) S5.out.2.2.2.2.1)))
  clear hw6 hc6 S5 f1
  go_wp2_with fail
  refine (KR1.out _ _ S6.out.1).mono ?_
  rintro e w7 ⟨rfl, hw7⟩
  have S7 := Lib.hid (And.intro (S6.out.1.below hw7) (And.intro (S6.out.2.1.below hw7) (And.intro (bel_trans S6.out.2.2.1 hw7) S6.out.2.2.2)))
  clear hw7 S6
  go_wp2_with fail
  refine (KR1.out _ _ S7.out.2.1).mono ?_
  rintro e w8 ⟨rfl, hw8⟩
  have S8 := Lib.hid (And.intro (S7.out.1.below hw8) (And.intro (bel_trans S7.out.2.2.1 hw8) S7.out.2.2.2))
  clear hw8 S7
  go_wp2_with fail
  refine (KA4.out _ _ S8.out.1).mono ?_
  rintro e w9 ⟨rfl, hc9, hw9⟩
  have S9 := Lib.hid (And.intro hc9 (bel_but S8.out.2.1 hw9 (by have := S8.out.2.2; omega)))
  clear hc9 hw9 S8
  go_wp2_with fail
  refine (KR2.out _ _ S9.out.1).mono ?_
  rintro e w10 ⟨rfl, hw10⟩
  have S10 := Lib.hid (And.intro (S9.out.1.below hw10) (bel_trans S9.out.2 hw10))
  clear hw10 S9
  go_wp2_with fail
  refine (KL2.out _ _ S10.out.1).mono ?_
  rintro e w11 ⟨rfl, hw11⟩
  have S11 := Lib.hid (bel_trans S10.out.2 hw11)
  clear hw11 S10
  go_wp2
  go_ret
  exact ⟨rfl, S11.out⟩
end Go.Proofs.Ytnooneejidpdaaa
