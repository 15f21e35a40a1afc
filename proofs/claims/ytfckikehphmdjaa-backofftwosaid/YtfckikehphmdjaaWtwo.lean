/- BackoffTwo's walk. -/
import Derived.Test.YtfckikehphmdjaaOpen
namespace Go.Proofs.Ytfckikehphmdjaa
open Go.RowKit

/-- Two backoffs of the walk's own, each in a block of its own. -/
structure Tw (w wi : World) (a b : Nat) (k l : B) : Prop where
  ka : Bk wi a k
  kb : Bk wi b l
  bel : Below w.heap.size w wi
  oa : w.heap.size ≤ a
  ob : w.heap.size ≤ b
  ne : a ≠ b
theorem Tw.below {w wi wj : World} {a b : Nat} {k l : B} (s : Tw w wi a b k l) (h : Below wi.heap.size wi wj) : Tw w wj a b k l :=
  ⟨s.ka.below h, s.kb.below h, s.bel.trans (h.mono s.bel.size), s.oa, s.ob, s.ne⟩
theorem Tw.left {w wi wj : World} {a b : Nat} {k k' l : B} (s : Tw w wi a b k l) (h : Bk wj a k') (hb : But a wi wj) : Tw w wj a b k' l :=
  ⟨h, hb.bk s.kb s.ne.symm, s.bel.trans (hb.below s.bel.size s.oa), s.oa, s.ob, s.ne⟩
theorem Tw.right {w wi wj : World} {a b : Nat} {k l l' : B} (s : Tw w wi a b k l) (h : Bk wj b l') (hb : But b wi wj) : Tw w wj a b k l' :=
  ⟨hb.bk s.ka s.ne, h, s.bel.trans (hb.below s.bel.size s.ob), s.oa, s.ob, s.ne⟩

set_option maxRecDepth 100000 in
set_option maxHeartbeats 4000000 in
theorem walk_two (n0 n1 : Int) (A1 : Option Addr) (len1 cap1 : Nat) (c : Int) (w : World) (a1 : 0 ≤ n0) (a2 : n0 ≤ 65535) (b1 : 0 ≤ n1) (b2 : n1 ≤ 65535) (hz : ActsIn w A1 len1 cap1) (c1 : 0 ≤ c) (c2 : c ≤ 255) :
    Calls Try.prog 7 #[.agg #[.int .u16 n0, .int .u16 n1], .slice A1 len1 cap1, .int .u8 c] w fun e w' => e = .returned (.bool true) ∧ Below w.heap.size w w' := by
  have Z := Lib.hid hz
  have KA := Lib.hid (fun w => alive_any w)
  have hl := hz.1
  have hm := hz.2.1
  unfold maxLen at hm
  clear hz
  obtain ⟨x, hx⟩ : ∃ x, 4 + n0 % 1021 = x := ⟨_, rfl⟩
  have x1 : 4 ≤ x := by omega
  have x2 : x ≤ 1024 := by omega
  obtain ⟨q, hq⟩ : ∃ q, 1024 - x + 1 = q := ⟨_, rfl⟩
  have q1 : 1 ≤ q := by omega
  have q2 : q ≤ 1021 := by omega
  have q3 : ¬ q = 0 := by omega
  obtain ⟨d, hd⟩ : ∃ d, n1 % q = d := ⟨_, rfl⟩
  have d1 : 0 ≤ d := by rw [← hd]; exact Int.emod_nonneg _ q3
  have d2 : d < q := by rw [← hd]; exact Int.emod_lt_of_pos _ (by omega)
  obtain ⟨y, hy⟩ : ∃ y, x + d = y := ⟨_, rfl⟩
  have y1 : x ≤ y := by omega
  have y2 : y ≤ 1024 := by omega
  have hs : newE x y = 0 := newE_in x1 y1 y2
  have KN := Lib.hid (fun w => new_ex (x := x) (y := y) (w := w) hs)
  have o0 := Lib.hid (ok_new hs)
  have ba := Lib.hid (bel_alloc w (.cells #[.int .u16 n0, .int .u16 n1] 33))
  clear hs
  go_enter Try.func7, Try.ntmps7
  go_wp2_with fail
  refine (KN.out _).mono ?_
  rintro e w1 ⟨a, rfl, hoa, hka, hla⟩
  have S0 := Lib.hid (St.mk (w := w) hka (bel_trans ba.out hla) (Nat.le_trans ba.out.size hoa))
  clear hka hla hoa
  go_wp2_with fail
  refine (KN.out _).mono ?_
  rintro e w2 ⟨b, rfl, hob, hkb, hlb⟩
  have T0 := Lib.hid (Tw.mk (S0.out.bk.below hlb) hkb (bel_trans S0.out.bel hlb) S0.out.own (Nat.le_trans S0.out.bel.size hob) (by have := S0.out.bk.lt; omega))
  clear hkb hlb hob KN ba hx hq hd q1 q2 q3 d1 d2 hy a1 a2 b1 b2 S0
  by_cases hn : 100 < len1
  · have t1 : decide ((100 : Int) < (len1 : Int)) = true := decide_eq_true (by omega)
    go_wp2_with fail
    refine (KA.out _).mono ?_
    rintro e w5 ⟨rfl, hb⟩
    have S3 := Lib.hid (T0.out.below hb)
    go_wp2
    go_ret
    exact ⟨rfl, S3.out.bel⟩
  have t1 : decide ((100 : Int) < (len1 : Int)) = false := decide_eq_false (by omega)
  go_wp2_with fail
  go_loopw [68] (fun v68 wi => ∃ (i : Nat) (k : B), i ≤ len1 ∧ v68 = .int .i64 (i : Int) ∧ x = k.l ∧ y = k.m ∧ k.t ≤ i ∧ Hid k.Ok ∧ Hid (Tw w wi a b k ⟨x, y, x, 0⟩)) (fun s _ => len1 - (intOf s).toNat)
  case atStart => exact ⟨0, ⟨x, y, x, 0⟩, Nat.zero_le _, rfl, rfl, rfl, Int.le_refl _, o0, T0⟩
  case round =>
    clear T0
    obtain ⟨i, ⟨l, m, n, t⟩, hi, rfl, e1, e2, ht, o, R0⟩ := hrel
    simp only at e1 e2 ht
    subst e1 e2
    have o6 := o.out.t1
    simp only at o6
    by_cases hin : i < len1
    · obtain ⟨g, o', z, rfl, hz⟩ := Z.out.at hin R0.out.bel
      cases z with
      | true =>
        have KF := Lib.hid (fun wi (h : Bk wi a ⟨x, y, n, t⟩) => fail_any a _ wi h o.out)
        have OF := Lib.hid (o.out.fail (by simp only; omega))
        simp only [B.fail] at OF KF
        generalize nx n y = u at *
        clear o
        go_wp2_with fail
        refine (KF.out _ R0.out.ka).mono ?_
        rintro e v2 ⟨rfl, hb, hl2⟩
        have R1 := Lib.hid (R0.out.left hb hl2)
        clear hb hl2 R0 KF hz
        go_wp2
        go_roundw
        case rel => exact ⟨i + 1, ⟨x, y, u, t + 1⟩, by omega, by go_num, rfl, rfl, by simp only; omega, OF, R1⟩
        case measure => simp [intOf]; omega
      | false =>
        have KF := Lib.hid (fun wi (h : Bk wi a ⟨x, y, n, t⟩) => good_any a _ wi h)
        have OF := Lib.hid (o.out.good)
        simp only [B.good] at OF KF
        clear o
        go_wp2_with fail
        refine (KF.out _ R0.out.ka).mono ?_
        rintro e v2 ⟨rfl, hb, hl2⟩
        have R1 := Lib.hid (R0.out.left hb hl2)
        clear hb hl2 R0 KF hz
        go_wp2
        go_roundw
        case rel => exact ⟨i + 1, ⟨x, y, x, 0⟩, by omega, by go_num, rfl, rfl, by simp only; omega, OF, R1⟩
        case measure => simp [intOf]; omega
    · have KN := Lib.hid (now_any b _ _ R0.out.kb)
      have KT := Lib.hid (times_any b _ _ R0.out.kb)
      have KG := Lib.hid (good_any a _ _ R0.out.ka)
      clear ht o o6
      go_wp2_with fail
      refine KN.out.mono ?_
      rintro e v1 ⟨rfl, rfl⟩
      go_wp2_with fail
      refine KT.out.mono ?_
      rintro e v1 ⟨rfl, rfl⟩
      go_wp2_with fail
      refine KG.out.mono ?_
      rintro e v2 ⟨rfl, hb, hl2⟩
      have R1 := Lib.hid (R0.out.left hb hl2)
      clear hb hl2 R0 KN KT KG
      simp only [B.good] at R1
      obtain ⟨r, hr⟩ : ∃ r, c % 20 = r := ⟨_, rfl⟩
      have r1 : 0 ≤ r := by omega
      have r2 : r < 20 := by omega
      obtain ⟨N, rfl⟩ : ∃ N : Nat, r = (N : Int) := ⟨r.toNat, by omega⟩
      clear r1
      go_wp2_with fail
      rw [hr]
      clear hr
      go_loopw [95] (fun v95 wi => ∃ (j : Nat) (k : B), j ≤ N ∧ v95 = .int .u8 (j : Int) ∧ k.t ≤ j ∧ Hid k.Ok ∧ Hid (Tw w wi a b k k)) (fun s _ => N - (intOf s).toNat)
      case atStart => exact ⟨0, ⟨x, y, x, 0⟩, Nat.zero_le _, rfl, Int.le_refl _, o0, R1⟩
      case round =>
        clear R1 o0
        obtain ⟨j, k, hj, rfl, ht, o, R0⟩ := hrel
        by_cases hjn : j < N
        · have KF := Lib.hid (fun a wi (h : Bk wi a k) => fail_any a _ wi h o.out)
          have OF := Lib.hid (o.out.fail (by omega))
          have ht2 : k.fail.t = k.t + 1 := rfl
          generalize nx k.n k.m = u at *
          generalize k.fail = k2 at *
          clear o
          go_wp2_with fail
          refine (KF.out _ _ R0.out.ka).mono ?_
          rintro e v2 ⟨rfl, hb, hl2⟩
          have R1 := Lib.hid (R0.out.left hb hl2)
          clear hb hl2 R0
          go_wp2_with fail
          refine (KF.out _ _ R1.out.kb).mono ?_
          rintro e v3 ⟨rfl, hb, hl2⟩
          have R2 := Lib.hid (R1.out.right hb hl2)
          clear hb hl2 R1 KF
          have K1 := Lib.hid (times_any a _ _ R2.out.ka)
          have K2 := Lib.hid (times_any b _ _ R2.out.kb)
          go_wp2_with fail
          refine K1.out.mono ?_
          rintro e v4 ⟨rfl, rfl⟩
          go_wp2_with fail
          refine K2.out.mono ?_
          rintro e v4 ⟨rfl, rfl⟩
          go_wp2
          go_roundw
          case rel => exact ⟨j + 1, k2, by omega, by go_num, by omega, OF, R2⟩
          case measure => simp [intOf]; omega
        · go_wp2_with fail
          refine (KA.out _).mono ?_
          rintro e v1 ⟨rfl, hb⟩
          have R1 := Lib.hid (R0.out.below hb)
          clear hb R0
          go_wp2
          go_ret
          exact ⟨rfl, R1.out.bel⟩
end Go.Proofs.Ytfckikehphmdjaa
