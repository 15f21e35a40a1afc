/- BackoffBounds' walk. -/
import Derived.Test.YtfckikehphmdjaaOpen
namespace Go.Proofs.Ytfckikehphmdjaa
open Go.RowKit

/-- Behind so many Fails in a row it is the most, or so many times 4. -/
def Near (y : Int) (j : Nat) (n : Int) : Prop := n = y ∨ 4 * (2 : Int) ^ j ≤ n
theorem Near.start {y n : Int} (h : 4 ≤ n) : Near y 0 n := .inr (by simpa using h)
theorem Near.step {y n u : Int} {j : Nat} (h : Near y j n) (h1 : n ≤ u) (h2 : u ≤ y) (h3 : u = y ∨ u = 2 * n) : Near y (j + 1) u := by
  rcases h with rfl | h
  · exact .inl (by omega)
  · rcases h3 with h3 | h3
    · exact .inl h3
    · exact .inr (by rw [Int.pow_succ]; omega)
theorem Near.end {y n : Int} (h : Near y 10 n) (h1 : n ≤ y) (h2 : y ≤ 1024) : n = y := by
  rcases h with rfl | h
  · rfl
  · have h3 : (2 : Int) ^ 10 = 1024 := by decide
    rw [h3] at h
    omega

set_option maxRecDepth 100000 in
set_option maxHeartbeats 4000000 in
theorem walk_bounds (n0 n1 : Int) (A1 : Option Addr) (len1 cap1 : Nat) (w : World) (a1 : 0 ≤ n0) (a2 : n0 ≤ 65535) (b1 : 0 ≤ n1) (b2 : n1 ≤ 65535) (hz : ActsIn w A1 len1 cap1) :
    Calls Try.prog 5 #[.agg #[.int .u16 n0, .int .u16 n1], .slice A1 len1 cap1] w fun e w' => e = .returned (.bool true) ∧ Below w.heap.size w w' := by
  have Z := Lib.hid hz
  have KA := Lib.hid (fun w => alive_any w)
  have hl := hz.1
  have hm := hz.2.1
  unfold maxLen at hm
  clear hz
  obtain ⟨x, hx⟩ : ∃ x, 4 + n0 % 1021 = x := ⟨_, rfl⟩
  have x1 : 4 ≤ x := by omega
  have x2 : x ≤ 1024 := by omega
  obtain ⟨q, hq⟩ : ∃ q, 1024 - x + 1 = q := ⟨_, rfl⟩
  have q1 : 1 ≤ q := by omega
  have q2 : q ≤ 1021 := by omega
  have q3 : ¬ q = 0 := by omega
  obtain ⟨d, hd⟩ : ∃ d, n1 % q = d := ⟨_, rfl⟩
  have d1 : 0 ≤ d := by rw [← hd]; exact Int.emod_nonneg _ q3
  have d2 : d < q := by rw [← hd]; exact Int.emod_lt_of_pos _ (by omega)
  obtain ⟨y, hy⟩ : ∃ y, x + d = y := ⟨_, rfl⟩
  have y1 : x ≤ y := by omega
  have y2 : y ≤ 1024 := by omega
  have hs : newE x y = 0 := newE_in x1 y1 y2
  have KN := Lib.hid (fun w => new_ex (x := x) (y := y) (w := w) hs)
  have o0 := Lib.hid (ok_new hs)
  have ba := Lib.hid (bel_alloc w (.cells #[.int .u16 n0, .int .u16 n1] 33))
  clear hs
  go_enter Try.func5, Try.ntmps5
  go_wp2_with fail
  refine (KN.out _).mono ?_
  rintro e w1 ⟨b, rfl, ho, hb, hl1⟩
  have S0 := Lib.hid (St.mk (w := w) hb (bel_trans ba.out hl1) (Nat.le_trans ba.out.size ho))
  clear hb hl1 ho KN ba hx hq hd q1 q2 q3 d1 d2 hy a1 a2 b1 b2
  by_cases hn : 300 < len1
  · have t1 : decide ((300 : Int) < (len1 : Int)) = true := decide_eq_true (by omega)
    go_wp2_with fail
    refine (KA.out _).mono ?_
    rintro e w5 ⟨rfl, hb⟩
    have S3 := Lib.hid (S0.out.below hb)
    go_wp2
    go_ret
    exact ⟨rfl, S3.out.bel⟩
  have t1 : decide ((300 : Int) < (len1 : Int)) = false := decide_eq_false (by omega)
  go_wp2_with fail
  go_loopw [51] (fun v51 wi => ∃ (i : Nat) (k : B), i ≤ len1 ∧ v51 = .int .i64 (i : Int) ∧ x = k.l ∧ y = k.m ∧ k.t ≤ i ∧ Hid k.Ok ∧ Hid (St w wi b k)) (fun s _ => len1 - (intOf s).toNat)
  case atStart => exact ⟨0, ⟨x, y, x, 0⟩, Nat.zero_le _, rfl, rfl, rfl, Int.le_refl _, o0, S0⟩
  case round =>
    clear S0 o0
    obtain ⟨i, ⟨l, m, n, t⟩, hi, rfl, e1, e2, ht, o, R0⟩ := hrel
    simp only at e1 e2 ht
    subst e1 e2
    have o4 := o.out.n1
    have o5 := o.out.n2
    have o6 := o.out.t1
    simp only at o4 o5 o6
    by_cases hin : i < len1
    · obtain ⟨g, o', z, rfl, hz⟩ := Z.out.at hin R0.out.bel
      have KN := Lib.hid (now_any b _ _ R0.out.bk)
      go_wp2_with fail
      refine KN.out.mono ?_
      rintro e v1 ⟨rfl, rfl⟩
      clear hz KN
      cases z with
      | true =>
        have KF := Lib.hid (fun wi (h : Bk wi b ⟨x, y, n, t⟩) => fail_any b _ wi h o.out)
        have OF := Lib.hid (o.out.fail (by simp only; omega))
        obtain ⟨u1, u2, u3⟩ := o.out.nx
        simp only [B.fail] at OF KF u1 u2 u3
        generalize nx n y = u at *
        clear o
        go_wp2_with fail
        refine (KF.out _ R0.out.bk).mono ?_
        rintro e v2 ⟨rfl, hb, hl2⟩
        have R1 := Lib.hid (R0.out.but hb hl2)
        clear hb hl2 R0 KF
        have KN := Lib.hid (now_any b _ _ R1.out.bk)
        go_wp2_with fail
        refine KN.out.mono ?_
        rintro e v3 ⟨rfl, rfl⟩
        by_cases hu : u = n
        · have s1 : (u == n) = true := by simp [hu]
          have s2 : (n != y) = false := by
            have : n = y := by omega
            simp [this]
          clear hu u3
          go_wp2_with (refine KN.out.mono ?_; rintro e v3 ⟨rfl, rfl⟩)
          go_roundw
          case rel => exact ⟨i + 1, ⟨x, y, u, t + 1⟩, by omega, by go_num, rfl, rfl, by simp only; omega, OF, R1⟩
          case measure => simp [intOf]; omega
        · have s1 : (u == n) = false := by simp [hu]
          clear u3 hu
          go_wp2_with (refine KN.out.mono ?_; rintro e v3 ⟨rfl, rfl⟩)
          go_roundw
          case rel => exact ⟨i + 1, ⟨x, y, u, t + 1⟩, by omega, by go_num, rfl, rfl, by simp only; omega, OF, R1⟩
          case measure => simp [intOf]; omega
      | false =>
        have KF := Lib.hid (fun wi (h : Bk wi b ⟨x, y, n, t⟩) => good_any b _ wi h)
        have OF := Lib.hid (o.out.good)
        simp only [B.good] at OF KF
        clear o
        go_wp2_with fail
        refine (KF.out _ R0.out.bk).mono ?_
        rintro e v2 ⟨rfl, hb, hl2⟩
        have R1 := Lib.hid (R0.out.but hb hl2)
        clear hb hl2 R0 KF
        have KN := Lib.hid (now_any b _ _ R1.out.bk)
        go_wp2_with (refine KN.out.mono ?_; rintro e v3 ⟨rfl, rfl⟩)
        go_roundw
        case rel => exact ⟨i + 1, ⟨x, y, x, 0⟩, by omega, by go_num, rfl, rfl, by simp only; omega, OF, R1⟩
        case measure => simp [intOf]; omega
    · have t300 : t ≤ 300 := by omega
      clear ht
      go_wp2_with fail
      go_loopw [92] (fun v92 wi => ∃ (j : Nat) (k : B), j ≤ 10 ∧ v92 = .int .i64 (j : Int) ∧ x = k.l ∧ y = k.m ∧ k.t ≤ 300 + j ∧ Hid k.Ok ∧ Hid (Near y j k.n) ∧ Hid (St w wi b k)) (fun s _ => 10 - (intOf s).toNat)
      case atStart => exact ⟨0, ⟨x, y, n, t⟩, Nat.zero_le _, rfl, rfl, rfl, by simp only; omega, o, Lib.hid (Near.start (by simp only; omega)), R0⟩
      case round =>
        clear R0 o o4 o5 o6 t300
        obtain ⟨j, ⟨l, m, n, t⟩, hj, rfl, e1, e2, ht, o, NR, R0⟩ := hrel
        simp only at e1 e2 ht
        subst e1 e2
        by_cases hjn : j < 10
        · have KF := Lib.hid (fun wi (h : Bk wi b ⟨x, y, n, t⟩) => fail_any b _ wi h o.out)
          have OF := Lib.hid (o.out.fail (by simp only; omega))
          obtain ⟨u1, u2, u3⟩ := o.out.nx
          have NF := Lib.hid (NR.out.step u1 u2 u3)
          simp only [B.fail] at OF KF NF
          generalize nx n y = u at *
          clear o u1 u2 u3 NR
          go_wp2_with fail
          refine (KF.out _ R0.out.bk).mono ?_
          rintro e v2 ⟨rfl, hb, hl2⟩
          have R1 := Lib.hid (R0.out.but hb hl2)
          clear hb hl2 R0 KF
          go_wp2
          go_roundw
          case rel => exact ⟨j + 1, ⟨x, y, u, t + 1⟩, by omega, by go_num, rfl, rfl, by simp only; omega, OF, NF, R1⟩
          case measure => simp [intOf]; omega
        · obtain rfl : j = 10 := by omega
          obtain rfl : n = y := NR.out.end o.out.n2 y2
          clear NR o
          go_wp2_with fail
          refine (KA.out _).mono ?_
          rintro e v1 ⟨rfl, hb⟩
          have R1 := Lib.hid (R0.out.below hb)
          clear hb R0
          have KN := Lib.hid (now_any b _ _ R1.out.bk)
          go_wp2_with (refine KN.out.mono ?_; rintro e v3 ⟨rfl, rfl⟩)
          go_ret
          exact ⟨rfl, R1.out.bel⟩
end Go.Proofs.Ytfckikehphmdjaa
