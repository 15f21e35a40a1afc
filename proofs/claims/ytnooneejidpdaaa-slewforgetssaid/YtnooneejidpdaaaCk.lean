/- A clock that is slewed, as plain numbers: no program in this text. -/
import Derived.Test.YtnooneejidpdaaaNum
namespace Go.Proofs.Ytnooneejidpdaaa

/-- As much as may be corrected on a way of d. -/
def fl (d r : Int) : Int := d * r / 1000000
/-- As much of l as is corrected on a way of d. -/
def cor (l d r : Int) : Int := kept l (-(fl d r)) (fl d r)

/-- A clock: its rate, its base, the time there, what is left, what was corrected in all. -/
structure Ck where
  r : Int
  h : Int
  c : Int
  l : Int
  a : Int

structure Ck.Ok (k : Ck) : Prop where
  r1 : 1 ≤ k.r
  r2 : k.r ≤ 500
  h1 : 0 ≤ k.h
  h2 : k.h ≤ 4611686018427387903
  l1 : -2305843009213693952 ≤ k.l
  l2 : k.l ≤ 2305843009213693952
  a1 : -k.h ≤ 2000 * k.a
  a2 : 2000 * k.a ≤ k.h
  c1 : -2305843009213693952 ≤ k.c - k.a
  c2 : k.c - k.a ≤ 2305843009213693952 + k.h

/-- The clock at a reading. -/
def Ck.now (k : Ck) (h : Int) : Ck := ⟨k.r, h, k.c + (h - k.h) + cor k.l (h - k.h) k.r, k.l - cor k.l (h - k.h) k.r, k.a + cor k.l (h - k.h) k.r⟩
/-- The clock behind an adjustment. -/
def Ck.adj (k : Ck) (h y : Int) : Ck := { k.now h with l := kept y (-2305843009213693952) 2305843009213693952 }
/-- What is told of a reading that isn't taken; else 0. -/
def Ck.err (k : Ck) (h : Int) : Int := if 4611686018427387903 < h then 3 else if h < k.h then 8 else 0

theorem kept_ge {a lo hi : Int} (h : lo ≤ hi) : lo ≤ kept a lo hi := by unfold kept; split <;> (try split) <;> omega
theorem kept_le {a lo hi : Int} (h : lo ≤ hi) : kept a lo hi ≤ hi := by unfold kept; split <;> (try split) <;> omega

theorem fl_eq (d r : Int) : fl d r * 1000000 ≤ d * r ∧ d * r < fl d r * 1000000 + 1000000 := by unfold fl; omega
theorem fl_nn {d r : Int} (hd : 0 ≤ d) (hr : 0 ≤ r) : 0 ≤ fl d r := Int.ediv_nonneg (Int.mul_nonneg hd hr) (by omega)
theorem fl_le {d r : Int} (hd : 0 ≤ d) (hr : r ≤ 500) : 2000 * fl d r ≤ d := by
  have := Int.mul_le_mul_of_nonneg_left hr hd
  have := fl_eq d r
  omega
theorem fl_add (d e r : Int) : fl d r + fl e r ≤ fl (d + e) r ∧ fl (d + e) r ≤ fl d r + fl e r + 1 := by
  have h1 := fl_eq d r
  have h2 := fl_eq e r
  have h3 := fl_eq (d + e) r
  rw [Int.add_mul] at h3
  omega
theorem fl_zero (r : Int) : fl 0 r = 0 := by unfold fl; rw [Int.zero_mul]; rfl
theorem cor_ge {l d r : Int} (hd : 0 ≤ d) (hr : 0 ≤ r) : -(fl d r) ≤ cor l d r := kept_ge (by have := fl_nn hd hr; omega)
theorem cor_le {l d r : Int} (hd : 0 ≤ d) (hr : 0 ≤ r) : cor l d r ≤ fl d r := kept_le (by have := fl_nn hd hr; omega)
theorem cor_sign {l d r : Int} (hd : 0 ≤ d) (hr : 0 ≤ r) : (0 ≤ l → 0 ≤ cor l d r ∧ cor l d r ≤ l) ∧ (l ≤ 0 → cor l d r ≤ 0 ∧ l ≤ cor l d r) := by
  have := fl_nn hd hr
  unfold cor kept
  split <;> (try split) <;> omega
theorem cor_zero (d r : Int) (hd : 0 ≤ d) (hr : 0 ≤ r) : cor 0 d r = 0 := by
  have := cor_sign (l := 0) hd hr
  omega
/-- On a longer way as much more is corrected as may be, at most. -/
theorem cor_more {l d e r : Int} (hd : 0 ≤ d) (he : 0 ≤ e) (hr : 0 ≤ r) :
    -(fl e r + 1) ≤ cor l (d + e) r - cor l d r ∧ cor l (d + e) r - cor l d r ≤ fl e r + 1 := by
  have h1 := fl_nn hd hr
  have h2 := fl_nn he hr
  have h3 := fl_add d e r
  unfold cor kept
  repeat' split
  all_goals omega
theorem fl_ref {d r : Int} : fl d r = d / 1000000 * r + d % 1000000 * r / 1000000 := by
  unfold fl
  have h : d * r = d / 1000000 * r * 1000000 + d % 1000000 * r := by
    have := Int.mul_ediv_add_emod d 1000000
    calc d * r = (1000000 * (d / 1000000) + d % 1000000) * r := by rw [this]
      _ = _ := by rw [Int.add_mul, Int.mul_comm 1000000 (d / 1000000), Int.mul_assoc (d / 1000000) 1000000 r, Int.mul_comm 1000000 r, ← Int.mul_assoc]
  omega

theorem Ck.Ok.now {k : Ck} (o : k.Ok) {h : Int} (h1 : k.h ≤ h) (h2 : h ≤ 4611686018427387903) : (k.now h).Ok := by
  obtain ⟨r1, r2, a1, a2, l1, l2, b1, b2, c1, c2⟩ := o
  have f1 := fl_nn (d := h - k.h) (r := k.r) (by omega) (by omega)
  have f2 := fl_le (d := h - k.h) (r := k.r) (by omega) (by omega)
  have g1 := cor_ge (l := k.l) (d := h - k.h) (r := k.r) (by omega) (by omega)
  have g2 := cor_le (l := k.l) (d := h - k.h) (r := k.r) (by omega) (by omega)
  have g3 := cor_sign (l := k.l) (d := h - k.h) (r := k.r) (by omega) (by omega)
  constructor <;> simp only [Ck.now] <;> omega
theorem Ck.Ok.adj {k : Ck} (o : k.Ok) {h y : Int} (h1 : k.h ≤ h) (h2 : h ≤ 4611686018427387903) : (k.adj h y).Ok := by
  obtain ⟨r1, r2, a1, a2, l1, l2, b1, b2, c1, c2⟩ := o.now h1 h2
  have g1 := kept_ge (a := y) (lo := -2305843009213693952) (hi := 2305843009213693952) (by omega)
  have g2 := kept_le (a := y) (lo := -2305843009213693952) (hi := 2305843009213693952) (by omega)
  constructor <;> simp only [Ck.adj] <;> assumption
/-- A new one. -/
theorem ok_new {h c r : Int} (h1 : 0 ≤ h) (h2 : h ≤ 4611686018427387903) (c1 : -2305843009213693952 ≤ c) (c2 : c ≤ 2305843009213693952) (r1 : 1 ≤ r) (r2 : r ≤ 500) : (Ck.mk r h c 0 0).Ok := by
  constructor <;> simp only <;> omega
theorem Ck.err_ok {k : Ck} {h : Int} (e : k.err h = 0) : k.h ≤ h ∧ h ≤ 4611686018427387903 := by
  unfold Ck.err at e
  split at e <;> (try split at e) <;> omega
theorem Ck.err_of {k : Ck} {h : Int} (h1 : k.h ≤ h) (h2 : h ≤ 4611686018427387903) : k.err h = 0 := by
  unfold Ck.err
  rw [if_neg (by omega), if_neg (by omega)]
end Go.Proofs.Ytnooneejidpdaaa
