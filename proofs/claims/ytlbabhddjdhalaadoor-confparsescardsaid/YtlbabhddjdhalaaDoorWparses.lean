/- ConfParses' walk. -/
import Derived.Test.YtlbabhddjdhalaaDoorRparse
import Derived.Test.YtlbabhddjdhalaaDoorRsame
namespace Go.Proofs.YtlbabhddjdhalaaDoor
open Go.RowKit Go.Proofs.Lx

theorem parsed_len (t : Bs) : (parseOf t).1.S.length ≤ 16 := by
  rcases parse_cases t with h | h
  · exact (check_small h.2).1
  · rw [h.2]; decide
set_option maxRecDepth 100000 in
set_option maxHeartbeats 4000000 in
theorem walk_confParses (s0 : ByteArray) (w : World) (w0 : s0.size ≤ maxLen) (hm : Mx w) :
    Calls Tryd.prog 4 #[.string s0] w fun e w' => e = .returned (.bool true) ∧ Below w.heap.size w w' := by
  unfold maxLen at w0
  have KL : Hid (∀ u, Below w.heap.size w u → Calls Tryd.prog 10 #[] u fun e w' => e = .returned (.bool true) ∧ Below u.heap.size u w') := fun u hu => alive_any u (hm.below hu (Nat.le_refl _))
  by_cases c1 : (5000 : Int) < (s0.size : Int)
  · go_enter Tryd.func4, Tryd.ntmps4
    go_wp2_with (go_at_call 10; refine (KL.out w (Below.refl _ _)).mono ?_; rintro e w1 ⟨rfl, hb1⟩)
    go_ret
    exact ⟨rfl, hb1⟩
  have HL := Lib.hid (parsed_len s0.data.toList)
  have KP := Lib.hid (parse_any s0 w (by omega) hm)
  have KR := Lib.hid (fun u => rparse_any s0 u (by omega))
  unfold ParsePost cval at KP KR
  obtain ⟨b, hb⟩ : ∃ b, b = (parseOf s0.data.toList).1 := ⟨_, rfl⟩
  obtain ⟨nn, hnn⟩ : ∃ n, n = (parseOf s0.data.toList).2.1 := ⟨_, rfl⟩
  obtain ⟨y, hy⟩ : ∃ y, y = (parseOf s0.data.toList).2.2 := ⟨_, rfl⟩
  rw [← hb] at HL
  rw [← hb, ← hnn, ← hy] at KP KR
  have KS : Hid (∀ u v1 v2, Ints u v1 b.S → Ints u v2 b.S → Calls Tryd.prog 15 #[cval v1 b, cval v2 b] u fun e w' => e = .returned (.bool true) ∧ Below u.heap.size u w') := fun u v1 v2 h1 h2 => by
    have := rsame_any v1 v2 b b u h1 h2 (by have := HL.out; omega) (by have := HL.out; omega)
    rw [decide_eq_true rfl] at this
    exact this
  unfold cval at KS
  obtain ⟨N, hN⟩ : ∃ N, N = b.S.length := ⟨_, rfl⟩
  have HN := Lib.hid hN
  have t1 : ((nn : Int) == (nn : Int)) = true := by simp
  have t2 : ((y : Int) == (y : Int)) = true := by simp
  clear hb hnn hy hm HL hN
  go_enter Tryd.func4, Tryd.ntmps4
  go_wp2_with fail
  refine KP.out.mono ?_
  rintro e w1 ⟨v1, rfl, hr1, hb1⟩
  have hi1 := hr1.ints
  obtain ⟨A, ca, rfl, hca⟩ := hi1.len
  rw [← HN.out] at hi1 hca ⊢
  have HI1 := Lib.hid hi1
  clear hi1 hr1
  obtain ⟨X, hX⟩ : ∃ X, X = w1.alloc (.cells #[.slice A N ca, .int .i64 b.q, .int .i64 b.l, .int .i64 b.m, .int .i64 b.d, .int .i64 b.s] 24) := ⟨_, rfl⟩
  have HX1 : Hid (Below w1.heap.size w1 X) := by show Below _ _ _; rw [hX]; exact below_alloc _ _
  have HXX : Hid (Box X w1.heap.size (.slice A N ca) b) := by show Box _ _ _ _; rw [hX]; exact Box.new _ _ _
  have HBX : Hid (Below w.heap.size w X) := hb1.trans (HX1.out.mono hb1.size)
  have HIX := Lib.hid (HI1.out.below HX1.out (Nat.le_refl _))
  go_wp2_with fail
  rw [← hX]
  refine (KR.out X).mono ?_
  rintro e w2 ⟨v2, rfl, hr2, hb2⟩
  have hi2 := hr2.ints
  obtain ⟨B, cb, rfl, hcb⟩ := hi2.len
  rw [← HN.out] at hi2 hcb ⊢
  have HI2 := Lib.hid hi2
  clear hi2 hr2 hX
  obtain ⟨Z, hZ⟩ : ∃ Z, Z = w2.alloc (.cells #[.slice B N cb, .int .i64 b.q, .int .i64 b.l, .int .i64 b.m, .int .i64 b.d, .int .i64 b.s] 24) := ⟨_, rfl⟩
  have HZ1 : Hid (Below w2.heap.size w2 Z) := by show Below _ _ _; rw [hZ]; exact below_alloc _ _
  have HZZ : Hid (Box Z w2.heap.size (.slice B N cb) b) := by show Box _ _ _ _; rw [hZ]; exact Box.new _ _ _
  have HBZ : Hid (Below w.heap.size w Z) := HBX.out.trans ((hb2.trans (HZ1.out.mono hb2.size)).mono HBX.out.size)
  have HXZ := Lib.hid ((HXX.out.below hb2 HXX.out.lt).below HZ1.out (Nat.lt_of_lt_of_le HXX.out.lt hb2.size))
  have HIA := Lib.hid ((HIX.out.below hb2 (Nat.le_refl _)).below HZ1.out (Nat.le_refl _))
  have HIB := Lib.hid (HI2.out.below HZ1.out (Nat.le_refl _))
  clear hb1 hb2
  go_wp2_with fail
  rw [← hZ]
  refine (KL.out Z HBZ.out).mono ?_
  rintro e w3 ⟨rfl, hb3⟩
  obtain ⟨a0, a1, a2, a3, a4, a5⟩ := (HXZ.out.below hb3 HXZ.out.lt).cells
  obtain ⟨b0, b1, b2, b3, b4, b5⟩ := (HZZ.out.below hb3 HZZ.out.lt).cells
  have K := Lib.hid (KS.out w3 (.slice A N ca) (.slice B N cb) (HIA.out.below hb3 (Nat.le_refl _)) (HIB.out.below hb3 (Nat.le_refl _)))
  have HB3 : Hid (Below w.heap.size w w3) := HBZ.out.trans (hb3.mono HBZ.out.size)
  clear hb3 hZ
  go_wp2_with fail
  refine K.out.mono ?_
  rintro e w4 ⟨rfl, hb4⟩
  go_wp2
  go_ret
  exact ⟨rfl, HB3.out.trans (hb4.mono HB3.out.size)⟩
end Go.Proofs.YtlbabhddjdhalaaDoor
