/- What is asked of a clock: Read, Left, Slewed, Adjust, New. -/
import Derived.Test.YtnooneejidpdaaaSlew
import Derived.Test.YtnooneejidpdaaaCor
namespace Go.Proofs.Ytnooneejidpdaaa
open Go.RowKit

/-- A reading that is taken. -/
theorem at_ok (b : Nat) (k : Ck) (x : Int) (w : World) (hc : Clk 64 w b k) (o : k.Ok) (h1 : k.h ≤ x) (h2 : x ≤ 4611686018427387903) :
    Calls Try.prog 24 #[.pointer (some ⟨b, 0, none⟩), .int .i64 x] w fun e w' => e = .returned (.tuple #[.agg #[.int .i64 (k.now x).h, .int .i64 (k.now x).c, .int .i64 (k.now x).l, .int .i64 (k.now x).a], .int .i64 0]) ∧ Below w.heap.size w w' := by
  obtain ⟨f0, f1, f2, f3, f4⟩ := hc.facts
  have o' := o.now h1 h2
  have g1 := cor_ge (l := k.l) (d := x - k.h) (r := k.r) (by omega) (by have := o.r1; omega)
  have g2 := cor_le (l := k.l) (d := x - k.h) (r := k.r) (by omega) (by have := o.r1; omega)
  have g3 := fl_le (d := x - k.h) (r := k.r) (by omega) o.r2
  obtain ⟨r1, r2, a1, a2, l1, l2, b1, b2, c1, c2⟩ := o
  obtain ⟨r1', r2', a1', a2', l1', l2', b1', b2', c1', c2'⟩ := o'
  simp only [Ck.now] at *
  refine at_in b k.r k.h k.c k.l k.a x x _ _ _ w hc.lt f0 f1 f2 f3 f4 a1 h1 h2 fun w => ?_
  have := after_in k.h k.c k.l k.a (x - k.h) k.r (cor k.l (x - k.h) k.r) w (fun w => cor_any k.l (x - k.h) k.r w (by omega) (by omega) (by omega) r2) (by omega) (by omega) (by omega) (by omega) (by omega) (by omega) (by omega) (by omega) (by omega) (by omega)
  rwa [show k.h + (x - k.h) = x from by omega] at this

/-- A reading that isn't. -/
theorem at_bad (b : Nat) (k : Ck) (x : Int) (w : World) (hc : Clk 64 w b k) (he : k.err x ≠ 0) :
    Calls Try.prog 24 #[.pointer (some ⟨b, 0, none⟩), .int .i64 x] w fun e w' => e = .returned (.tuple #[.agg #[.int .i64 0, .int .i64 0, .int .i64 0, .int .i64 0], .int .i64 (k.err x)]) ∧ Below w.heap.size w w' := by
  unfold Ck.err at *
  by_cases h : 4611686018427387903 < x
  · rw [if_pos h]; exact at_far b x w h
  · rw [if_neg h] at he ⊢
    by_cases h' : x < k.h
    · rw [if_pos h']; exact at_early b k x w hc (by omega) h'
    · rw [if_neg h'] at he; exact absurd rfl he

theorem ask_ok28 (nh nc nl na y x : Int) (p : Value) (w : World) (HA : Calls Try.prog 24 #[p, .int .i64 x] w fun e w' => e = .returned (.tuple #[.agg #[.int .i64 nh, .int .i64 nc, .int .i64 nl, .int .i64 na], .int .i64 0]) ∧ Below w.heap.size w w')
    (HF : ∀ w, Calls Try.prog 28 #[.agg #[.int .i64 nh, .int .i64 nc, .int .i64 nl, .int .i64 na]] w fun e w' => e = .returned (.int .i64 y) ∧ Below w.heap.size w w') :
    Calls Try.prog 27 #[p, .int .i64 x, .func (.func 28) #[] #[]] w fun e w' => e = .returned (.tuple #[.int .i64 y, .int .i64 0]) ∧ Below w.heap.size w w' := by
  have KA := Lib.hid HA
  have KF := Lib.hid HF
  clear HA HF
  go_enter Try.func27, Try.ntmps27
  go_wp2_with fail
  refine KA.out.mono ?_
  rintro e w1 ⟨rfl, hb1⟩
  go_wp2_with fail
  refine (KF.out _).mono ?_
  rintro e w2 ⟨rfl, hb2⟩
  have HB := Lib.hid (hb1.trans ((below_box (by simpa using hb2)).mono (B' := w.heap.size) hb1.size))
  clear hb1 hb2
  go_wp2
  go_ret2
  exact ⟨rfl, HB.out⟩
theorem ask_bad28 (y x : Int) (p : Value) (w : World) (hy : y ≠ 0) (HA : Calls Try.prog 24 #[p, .int .i64 x] w fun e w' => e = .returned (.tuple #[.agg #[.int .i64 0, .int .i64 0, .int .i64 0, .int .i64 0], .int .i64 y]) ∧ Below w.heap.size w w') :
    Calls Try.prog 27 #[p, .int .i64 x, .func (.func 28) #[] #[]] w fun e w' => e = .returned (.tuple #[.int .i64 0, .int .i64 y]) ∧ Below w.heap.size w w' := by
  have KA := Lib.hid HA
  clear HA
  have hd : (y != 0) = true := by simp [hy]
  go_enter Try.func27, Try.ntmps27
  go_wp2_with fail
  refine KA.out.mono ?_
  rintro e w1 ⟨rfl, hb1⟩
  have HB := Lib.hid hb1
  clear hb1
  go_wp2
  go_ret2
  exact ⟨rfl, HB.out.alloc HB.out.size _⟩
theorem ask_ok29 (nh nc nl na y x : Int) (p : Value) (w : World) (HA : Calls Try.prog 24 #[p, .int .i64 x] w fun e w' => e = .returned (.tuple #[.agg #[.int .i64 nh, .int .i64 nc, .int .i64 nl, .int .i64 na], .int .i64 0]) ∧ Below w.heap.size w w')
    (HF : ∀ w, Calls Try.prog 29 #[.agg #[.int .i64 nh, .int .i64 nc, .int .i64 nl, .int .i64 na]] w fun e w' => e = .returned (.int .i64 y) ∧ Below w.heap.size w w') :
    Calls Try.prog 27 #[p, .int .i64 x, .func (.func 29) #[] #[]] w fun e w' => e = .returned (.tuple #[.int .i64 y, .int .i64 0]) ∧ Below w.heap.size w w' := by
  have KA := Lib.hid HA
  have KF := Lib.hid HF
  clear HA HF
  go_enter Try.func27, Try.ntmps27
  go_wp2_with fail
  refine KA.out.mono ?_
  rintro e w1 ⟨rfl, hb1⟩
  go_wp2_with fail
  refine (KF.out _).mono ?_
  rintro e w2 ⟨rfl, hb2⟩
  have HB := Lib.hid (hb1.trans ((below_box (by simpa using hb2)).mono (B' := w.heap.size) hb1.size))
  clear hb1 hb2
  go_wp2
  go_ret2
  exact ⟨rfl, HB.out⟩
theorem ask_bad29 (y x : Int) (p : Value) (w : World) (hy : y ≠ 0) (HA : Calls Try.prog 24 #[p, .int .i64 x] w fun e w' => e = .returned (.tuple #[.agg #[.int .i64 0, .int .i64 0, .int .i64 0, .int .i64 0], .int .i64 y]) ∧ Below w.heap.size w w') :
    Calls Try.prog 27 #[p, .int .i64 x, .func (.func 29) #[] #[]] w fun e w' => e = .returned (.tuple #[.int .i64 0, .int .i64 y]) ∧ Below w.heap.size w w' := by
  have KA := Lib.hid HA
  clear HA
  have hd : (y != 0) = true := by simp [hy]
  go_enter Try.func27, Try.ntmps27
  go_wp2_with fail
  refine KA.out.mono ?_
  rintro e w1 ⟨rfl, hb1⟩
  have HB := Lib.hid hb1
  clear hb1
  go_wp2
  go_ret2
  exact ⟨rfl, HB.out.alloc HB.out.size _⟩
theorem ask_ok30 (nh nc nl na y x : Int) (p : Value) (w : World) (HA : Calls Try.prog 24 #[p, .int .i64 x] w fun e w' => e = .returned (.tuple #[.agg #[.int .i64 nh, .int .i64 nc, .int .i64 nl, .int .i64 na], .int .i64 0]) ∧ Below w.heap.size w w')
    (HF : ∀ w, Calls Try.prog 30 #[.agg #[.int .i64 nh, .int .i64 nc, .int .i64 nl, .int .i64 na]] w fun e w' => e = .returned (.int .i64 y) ∧ Below w.heap.size w w') :
    Calls Try.prog 27 #[p, .int .i64 x, .func (.func 30) #[] #[]] w fun e w' => e = .returned (.tuple #[.int .i64 y, .int .i64 0]) ∧ Below w.heap.size w w' := by
  have KA := Lib.hid HA
  have KF := Lib.hid HF
  clear HA HF
  go_enter Try.func27, Try.ntmps27
  go_wp2_with fail
  refine KA.out.mono ?_
  rintro e w1 ⟨rfl, hb1⟩
  go_wp2_with fail
  refine (KF.out _).mono ?_
  rintro e w2 ⟨rfl, hb2⟩
  have HB := Lib.hid (hb1.trans ((below_box (by simpa using hb2)).mono (B' := w.heap.size) hb1.size))
  clear hb1 hb2
  go_wp2
  go_ret2
  exact ⟨rfl, HB.out⟩
theorem ask_bad30 (y x : Int) (p : Value) (w : World) (hy : y ≠ 0) (HA : Calls Try.prog 24 #[p, .int .i64 x] w fun e w' => e = .returned (.tuple #[.agg #[.int .i64 0, .int .i64 0, .int .i64 0, .int .i64 0], .int .i64 y]) ∧ Below w.heap.size w w') :
    Calls Try.prog 27 #[p, .int .i64 x, .func (.func 30) #[] #[]] w fun e w' => e = .returned (.tuple #[.int .i64 0, .int .i64 y]) ∧ Below w.heap.size w w' := by
  have KA := Lib.hid HA
  clear HA
  have hd : (y != 0) = true := by simp [hy]
  go_enter Try.func27, Try.ntmps27
  go_wp2_with fail
  refine KA.out.mono ?_
  rintro e w1 ⟨rfl, hb1⟩
  have HB := Lib.hid hb1
  clear hb1
  go_wp2
  go_ret2
  exact ⟨rfl, HB.out.alloc HB.out.size _⟩
theorem ask15 (p : Value) (x y z : Int) (w : World) (H : Calls Try.prog 27 #[p, .int .i64 x, .func (.func 28) #[] #[]] w fun e w' => e = .returned (.tuple #[.int .i64 y, .int .i64 z]) ∧ Below w.heap.size w w') :
    Calls Try.prog 15 #[p, .int .i64 x] w fun e w' => e = .returned (.tuple #[.int .i64 y, .int .i64 z]) ∧ Below w.heap.size w w' := by
  have K := Lib.hid H
  clear H
  go_enter Try.func15, Try.ntmps15
  go_wp2_with fail
  refine K.out.mono ?_
  rintro e w1 ⟨rfl, hb1⟩
  have HB := Lib.hid hb1
  clear hb1
  go_wp2
  go_ret2
  exact ⟨rfl, HB.out⟩
theorem ask16 (p : Value) (x y z : Int) (w : World) (H : Calls Try.prog 27 #[p, .int .i64 x, .func (.func 29) #[] #[]] w fun e w' => e = .returned (.tuple #[.int .i64 y, .int .i64 z]) ∧ Below w.heap.size w w') :
    Calls Try.prog 16 #[p, .int .i64 x] w fun e w' => e = .returned (.tuple #[.int .i64 y, .int .i64 z]) ∧ Below w.heap.size w w' := by
  have K := Lib.hid H
  clear H
  go_enter Try.func16, Try.ntmps16
  go_wp2_with fail
  refine K.out.mono ?_
  rintro e w1 ⟨rfl, hb1⟩
  have HB := Lib.hid hb1
  clear hb1
  go_wp2
  go_ret2
  exact ⟨rfl, HB.out⟩
theorem ask17 (p : Value) (x y z : Int) (w : World) (H : Calls Try.prog 27 #[p, .int .i64 x, .func (.func 30) #[] #[]] w fun e w' => e = .returned (.tuple #[.int .i64 y, .int .i64 z]) ∧ Below w.heap.size w w') :
    Calls Try.prog 17 #[p, .int .i64 x] w fun e w' => e = .returned (.tuple #[.int .i64 y, .int .i64 z]) ∧ Below w.heap.size w w' := by
  have K := Lib.hid H
  clear H
  go_enter Try.func17, Try.ntmps17
  go_wp2_with fail
  refine K.out.mono ?_
  rintro e w1 ⟨rfl, hb1⟩
  have HB := Lib.hid hb1
  clear hb1
  go_wp2
  go_ret2
  exact ⟨rfl, HB.out⟩
end Go.Proofs.Ytnooneejidpdaaa
