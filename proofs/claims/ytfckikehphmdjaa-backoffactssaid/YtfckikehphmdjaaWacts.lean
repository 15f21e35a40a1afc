/- BackoffActs' walk. -/
import Derived.Test.YtfckikehphmdjaaOpen
import Derived.Test.YtfckikehphmdjaaRef
namespace Go.Proofs.Ytfckikehphmdjaa
open Go.RowKit

set_option maxRecDepth 100000 in
set_option maxHeartbeats 4000000 in
theorem walk_acts (x y : Int) (A2 : Option Addr) (len2 cap2 : Nat) (w : World) (hz : ActsIn w A2 len2 cap2) :
    Calls Try.prog 3 #[.int .i64 x, .int .i64 y, .slice A2 len2 cap2] w fun e w' => e = .returned (.bool true) ∧ Below w.heap.size w w' := by
  have Z := Lib.hid hz
  have KR := Lib.hid (fun w => rnew_any x y w)
  have KA := Lib.hid (fun w => alive_any w)
  have N0 := Lib.hid (fun w => now_nil w)
  have N1 := Lib.hid (fun w => fail_nil w)
  have N2 := Lib.hid (fun w => good_nil w)
  have N3 := Lib.hid (fun w => times_nil w)
  have hl := hz.1
  have hm := hz.2.1
  unfold maxLen at hm
  clear hz
  by_cases hf : newE x y = 0
  · have KN := Lib.hid (fun w => new_ex (x := x) (y := y) (w := w) hf)
    have o0 := Lib.hid (ok_new hf)
    rw [hf] at KR
    have x1 := o0.out.l1
    have x2 : x ≤ 1024 := Int.le_trans o0.out.lm o0.out.m1
    clear hf
    simp only at x1
    go_enter Try.func3, Try.ntmps3
    go_wp2_with fail
    refine (KN.out _).mono ?_
    rintro e w1 ⟨b, rfl, ho, hb, hl1⟩
    have S0 := Lib.hid (St.mk (w := w) hb hl1 ho)
    clear hb hl1 ho KN
    go_wp2_with fail
    refine (KR.out _).mono ?_
    rintro e w2 ⟨rfl, rfl⟩
    go_wp2_with fail
    refine (N0.out _).mono ?_
    rintro e w2 ⟨rfl, rfl⟩
    go_wp2_with fail
    refine (N1.out _).mono ?_
    rintro e w2 ⟨rfl, hb⟩
    have S1 := Lib.hid (S0.out.below hb)
    clear hb S0
    go_wp2_with fail
    refine (N2.out _).mono ?_
    rintro e w3 ⟨rfl, hb⟩
    have S2 := Lib.hid (S1.out.below hb)
    clear hb S1
    go_wp2_with fail
    refine (N3.out _).mono ?_
    rintro e w4 ⟨rfl, rfl⟩
    clear KR N0 N1 N2 N3
    by_cases hn : 300 < len2
    · have t1 : decide ((300 : Int) < (len2 : Int)) = true := decide_eq_true (by omega)
      go_wp2_with fail
      refine (KA.out _).mono ?_
      rintro e w5 ⟨rfl, hb⟩
      have S3 := Lib.hid (S2.out.below hb)
      go_wp2
      go_ret
      exact ⟨rfl, S3.out.bel⟩
    · have t1 : decide ((300 : Int) < (len2 : Int)) = false := decide_eq_false (by omega)
      go_wp2_with fail
      go_loopw [65, 11, 12] (fun v65 v11 v12 wi => ∃ (i : Nat) (k : B), i ≤ len2 ∧ v65 = .int .i64 (i : Int) ∧ v11 = .int .i64 k.n ∧ v12 = .int .i64 k.t ∧ x = k.l ∧ y = k.m ∧ k.t ≤ i ∧ Hid k.Ok ∧ Hid (St w wi b k)) (fun s _ _ _ => len2 - (intOf s).toNat)
      case atStart => exact ⟨0, ⟨x, y, x, 0⟩, Nat.zero_le _, rfl, rfl, rfl, rfl, rfl, Int.le_refl _, o0, S2⟩
      case round =>
        clear S2 o0
        obtain ⟨i, ⟨l, m, n, t⟩, hi, rfl, rfl, rfl, e1, e2, ht, o, R0⟩ := hrel
        simp only at e1 e2 ht
        subst e1 e2
        by_cases hin : i < len2
        · obtain ⟨g, o', z, rfl, hz⟩ := Z.out.at hin R0.out.bel
          have o1 := o.out.l1
          have o2 := o.out.lm
          have o3 := o.out.m1
          have o4 := o.out.n1
          have o5 := o.out.n2
          have o6 := o.out.t1
          simp only at o1 o2 o3 o4 o5 o6
          cases z with
          | true =>
            have KX := Lib.hid (fun w => rnext_any n y w (by omega) (by omega) (by omega) (by omega))
            have KF := Lib.hid (fun wi (h : Bk wi b ⟨x, y, n, t⟩) => fail_any b _ wi h o.out)
            have OF := Lib.hid (o.out.fail (by simp only; omega))
            simp only [B.fail] at OF KF
            generalize nx n y = u at *
            clear o
            go_wp2_with fail
            refine (KX.out _).mono ?_
            rintro e v1 ⟨rfl, rfl⟩
            clear hz
            go_wp2_with fail
            refine (KF.out _ R0.out.bk).mono ?_
            rintro e v2 ⟨rfl, hb, hl2⟩
            have R1 := Lib.hid (R0.out.but hb hl2)
            clear hb hl2 R0 KF KX
            have KN := Lib.hid (now_any b _ _ R1.out.bk)
            have KT := Lib.hid (times_any b _ _ R1.out.bk)
            go_wp2_with fail
            refine KN.out.mono ?_
            rintro e v3 ⟨rfl, rfl⟩
            go_wp2_with fail
            refine KT.out.mono ?_
            rintro e v3 ⟨rfl, rfl⟩
            go_wp2
            go_roundw
            case rel => exact ⟨i + 1, ⟨x, y, u, t + 1⟩, by omega, by go_num, rfl, rfl, rfl, rfl, by simp only; omega, OF, R1⟩
            case measure => simp [intOf]; omega
          | false =>
            have KF := Lib.hid (fun wi (h : Bk wi b ⟨x, y, n, t⟩) => good_any b _ wi h)
            have OF := Lib.hid (o.out.good)
            simp only [B.good] at OF KF
            clear o
            go_wp2_with fail
            refine (KF.out _ R0.out.bk).mono ?_
            rintro e v2 ⟨rfl, hb, hl2⟩
            have R1 := Lib.hid (R0.out.but hb hl2)
            clear hb hl2 R0 KF hz
            have KN := Lib.hid (now_any b _ _ R1.out.bk)
            have KT := Lib.hid (times_any b _ _ R1.out.bk)
            go_wp2_with fail
            refine KN.out.mono ?_
            rintro e v3 ⟨rfl, rfl⟩
            go_wp2_with fail
            refine KT.out.mono ?_
            rintro e v3 ⟨rfl, rfl⟩
            go_wp2
            go_roundw
            case rel => exact ⟨i + 1, ⟨x, y, x, 0⟩, by omega, by go_num, rfl, rfl, rfl, rfl, by simp only; omega, OF, R1⟩
            case measure => simp [intOf]; omega
        · go_wp2_with fail
          refine (KA.out _).mono ?_
          rintro e v1 ⟨rfl, hb⟩
          have R1 := Lib.hid (R0.out.below hb)
          go_wp2
          go_ret
          exact ⟨rfl, R1.out.bel⟩
  · have KN := Lib.hid (fun w => new_bad x y w hf)
    generalize newE x y = f at *
    have t0 : (f == 0) = false := by simp [hf]
    have t1 : (f != 0) = true := by simp [hf]
    clear hf
    go_enter Try.func3, Try.ntmps3
    go_wp2_with fail
    refine (KN.out _).mono ?_
    rintro e w1 ⟨rfl, rfl⟩
    clear KN
    go_wp2_with fail
    refine (KR.out _).mono ?_
    rintro e w2 ⟨rfl, rfl⟩
    go_wp2_with fail
    refine (N0.out _).mono ?_
    rintro e w2 ⟨rfl, rfl⟩
    go_wp2_with fail
    refine (N1.out _).mono ?_
    rintro e w2 ⟨rfl, hb1⟩
    have S1 := Lib.hid hb1
    clear hb1
    go_wp2_with fail
    refine (N2.out _).mono ?_
    rintro e w3 ⟨rfl, hb2⟩
    have S2 := Lib.hid (bel_trans S1.out hb2)
    clear hb2 S1
    go_wp2_with fail
    refine (N3.out _).mono ?_
    rintro e w4 ⟨rfl, rfl⟩
    clear KR N0 N1 N2 N3
    go_wp2_with fail
    refine (KA.out _).mono ?_
    rintro e w5 ⟨rfl, hb3⟩
    have S3 := Lib.hid (bel_trans S2.out hb3)
    go_wp2
    go_ret
    exact ⟨rfl, S3.out⟩
end Go.Proofs.Ytfckikehphmdjaa
