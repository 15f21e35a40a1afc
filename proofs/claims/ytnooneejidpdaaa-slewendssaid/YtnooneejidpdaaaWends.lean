/- SlewEnds' walk. -/
import Derived.Test.YtnooneejidpdaaaSt
namespace Go.Proofs.Ytnooneejidpdaaa
open Go.RowKit

theorem ends_num (y r en : Int) (y1 : -2147483648 ≤ y) (y2 : y ≤ 2147483647) (r1 : 1 ≤ r) (r2 : r ≤ 500) (hen : (max y (-y) * 1000000 + r - 1) / r = en) :
    0 ≤ en ∧ en ≤ 2147483648000500 ∧ max y (-y) ≤ fl en r ∧ fl (en - 1) r < max y (-y) := by
  have s0 : 0 ≤ max y (-y) := by omega
  have s1 : max y (-y) ≤ 2147483648 := by omega
  generalize max y (-y) = s at *
  have a := Int.mul_ediv_add_emod (s * 1000000 + r - 1) r
  have b := Int.emod_lt_of_pos (s * 1000000 + r - 1) (show 0 < r by omega)
  have c := Int.emod_nonneg (s * 1000000 + r - 1) (show r ≠ 0 by omega)
  rw [hen] at a
  have d := Int.ediv_nonneg (show 0 ≤ s * 1000000 + r - 1 by omega) (show 0 ≤ r by omega)
  have e := Int.ediv_le_self r (show 0 ≤ s * 1000000 + r - 1 by omega)
  rw [hen] at d e
  have f1 := fl_eq en r
  have f2 := fl_eq (en - 1) r
  rw [Int.sub_mul, Int.one_mul] at f2
  rw [Int.mul_comm r en] at a
  refine ⟨d, by omega, by omega, by omega⟩

set_option maxRecDepth 100000 in
set_option maxHeartbeats 4000000 in
theorem walk_ends (n y m : Int) (w : World) (n1 : 0 ≤ n) (n2 : n ≤ 65535) (y1 : -2147483648 ≤ y) (y2 : y ≤ 2147483647) (m1 : 0 ≤ m) (m2 : m ≤ 65535) : Calls Try.prog 7 #[.int .u16 n, .int .i32 y, .int .u16 m] w fun e w' => e = .returned (.bool true) ∧ Below w.heap.size w w' := by
  have KR := Lib.hid (fun w => rate_any n w n1 (by omega))
  obtain ⟨r, hr⟩ : ∃ r, r = 1 + n % 500 := ⟨_, rfl⟩
  rw [← hr] at KR
  have r1 : 1 ≤ r := by omega
  have r2 : r ≤ 500 := by omega
  clear hr
  have KN := Lib.hid (fun w => new_st (w := w) (h := 0) (c := 0) (p := r) ⟨by omega, by omega, by omega, by omega, r1, r2⟩)
  have o := ok_new (h := 0) (c := 0) (r := r) (by omega) (by omega) (by omega) (by omega) r1 r2
  have KL := Lib.hid (fun w => alive_any w)
  have KA := Lib.hid (fun b w hc => adjust_any b ⟨r, 0, 0, 0, 0⟩ 0 w hc o y)
  rw [show (Ck.mk r 0 0 0 0).put 0 y = ⟨r, 0, 0, y, 0⟩ from (put_base o y).trans (by rw [kept_in (by omega) (by omega)]), show (Ck.mk r 0 0 0 0).err 0 = 0 from rfl] at KA
  clear o
  go_enter Try.func7, Try.ntmps7
  go_wp2_with fail
  refine (KR.out _).mono ?_
  rintro e w0 ⟨rfl, rfl⟩
  go_wp2_with fail
  refine (KN.out _).mono ?_
  rintro e w1 ⟨rfl, hs1⟩
  have S1 := Lib.hid hs1
  clear hs1
  go_wp2_with fail
  refine (KL.out _).mono ?_
  rintro e w2 ⟨rfl, hb2⟩
  have S2 := Lib.hid (S1.out.below hb2)
  clear hb2 S1
  go_wp2_with fail
  refine (KA.out _ _ S2.out.clk).mono ?_
  rintro e w3 ⟨rfl, hc3, hb3⟩
  have S3 := Lib.hid (S2.out.but hc3 hb3)
  clear hc3 hb3 S2
  clear KR KN KL KA
  go_wp2_with fail
  generalize hen : (max y (-y) * 1000000 + r - 1) / r = en
  obtain ⟨e1, e2, e3, e4⟩ := ends_num y r en y1 y2 r1 r2 hen
  have o : (Ck.mk r 0 0 y 0).Ok := by constructor <;> simp only <;> omega
  have q1 : fl en r ≤ fl (en + m) r := by
    have := fl_add en m r
    have := fl_nn m1 (show 0 ≤ r by omega)
    omega
  have KL1 := Lib.hid (fun b w hc => left_any b ⟨r, 0, 0, y, 0⟩ en w hc o)
  rw [show lf (Ck.mk r 0 0 y 0) en = 0 from (lf_ok (by simp only; omega) (by omega)).trans (by simp only; rw [show en - 0 = en by omega, cor_all (by omega) (by omega)]; omega), Ck.err_of (k := ⟨r, 0, 0, y, 0⟩) (h := en) (by simp only; omega) (by omega)] at KL1
  have KR1 := Lib.hid (fun b w hc => read_any b ⟨r, 0, 0, y, 0⟩ en w hc o)
  rw [show rd (Ck.mk r 0 0 y 0) en = en + y from (rd_ok (by simp only; omega) (by omega)).trans (by simp only; rw [show en - 0 = en by omega, cor_all (by omega) (by omega)]; omega), Ck.err_of (k := ⟨r, 0, 0, y, 0⟩) (h := en) (by simp only; omega) (by omega)] at KR1
  have KR2 := Lib.hid (fun b w hc => read_any b ⟨r, 0, 0, y, 0⟩ (en + m) w hc o)
  rw [show rd (Ck.mk r 0 0 y 0) (en + m) = en + y + m from (rd_ok (by simp only; omega) (by omega)).trans (by simp only; rw [show en + m - 0 = en + m by omega, cor_all (by omega) (by omega)]; omega), Ck.err_of (k := ⟨r, 0, 0, y, 0⟩) (h := en + m) (by simp only; omega) (by omega)] at KR2
  have E4 := Lib.hid e4
  have O := Lib.hid o
  clear hen e3 e4 o q1
  refine (KL1.out _ _ S3.out.clk).mono ?_
  rintro e w4 ⟨rfl, hb4⟩
  have S4 := Lib.hid (S3.out.below hb4)
  clear hb4 S3 KL1
  go_wp2_with fail
  refine (KR1.out _ _ S4.out.clk).mono ?_
  rintro e w5 ⟨rfl, hb5⟩
  have S5 := Lib.hid (S4.out.below hb5)
  clear hb5 S4 KR1
  go_wp2_with fail
  refine (KR2.out _ _ S5.out.clk).mono ?_
  rintro e w6 ⟨rfl, hb6⟩
  have S6 := Lib.hid (S5.out.below hb6)
  clear hb6 S5 KR2
  by_cases hz : en = 0
  · have z1 : (en == 0) = true := by simp [hz]
    clear hz
    go_wp2
    go_ret
    exact ⟨rfl, S6.out.bel⟩
  · have z1 : (en == 0) = false := by simp [hz]
    have KL2 := Lib.hid (fun b w hc => left_any b ⟨r, 0, 0, y, 0⟩ (en - 1) w hc O.out)
    obtain ⟨L, hL⟩ : ∃ L, L = lf (Ck.mk r 0 0 y 0) (en - 1) := ⟨_, rfl⟩
    rw [← hL, Ck.err_of (k := ⟨r, 0, 0, y, 0⟩) (h := en - 1) (by simp only; omega) (by omega)] at KL2
    have hL2 : L ≠ 0 := by
      rw [hL, lf_ok (by simp only; omega) (by omega)]
      simp only
      rw [show en - 1 - 0 = en - 1 by omega]
      have := cor_not (l := y) (d := en - 1) (r := r) (by have := E4.out; split <;> omega)
      omega
    have z2 : (L != 0) = true := by simp [hL2]
    clear hL hL2 hz E4 O
    go_wp2_with fail
    refine (KL2.out _ _ S6.out.clk).mono ?_
    rintro e w7 ⟨rfl, hb7⟩
    have S7 := Lib.hid (S6.out.below hb7)
    clear hb7 S6 KL2
    go_wp2
    go_ret
    exact ⟨rfl, S7.out.bel⟩
end Go.Proofs.Ytnooneejidpdaaa
