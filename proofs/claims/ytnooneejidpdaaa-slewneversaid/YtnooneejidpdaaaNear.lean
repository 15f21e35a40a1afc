/- Of any two readings the times are as far apart as these, but for the rate, and 1: on plain numbers. -/
import Derived.Test.YtnooneejidpdaaaSt
namespace Go.Proofs.Ytnooneejidpdaaa
open Go.RowKit

/-- A reading a with the time c, as the clock k has it now: ahead of k's base, or told by k. -/
def Seen (k : Ck) (a c : Int) : Prop :=
  (a ≤ k.h ∧ -(fl (k.h - a) k.r) ≤ k.c - c - (k.h - a) ∧ k.c - c - (k.h - a) ≤ fl (k.h - a) k.r) ∨
  (k.h ≤ a ∧ c = k.c + (a - k.h) + cor k.l (a - k.h) k.r)
/-- What holds behind i readings, the last of them h; of the first L each was followed by an adjustment. -/
structure Inv (L i : Nat) (h : Int) (k : Ck) (hs cs : List Int) : Prop where
  l1 : hs.length = i
  l2 : cs.length = i
  ok : k.Ok
  hk : k.h ≤ h
  hl : i ≤ L → k.h = h
  hb : h ≤ i * 4294967295
  each : ∀ (j : Nat) (a c : Int), hs[j]? = some a → cs[j]? = some c → 0 ≤ a ∧ a ≤ h ∧ -9000000000000000000 ≤ c ∧ c ≤ 9000000000000000000 ∧ Seen k a c

theorem cor_nil (l r : Int) : cor l 0 r = 0 := by
  unfold cor
  rw [fl_zero]
  unfold kept
  split <;> (try split) <;> omega

/-- The bounds. -/
theorem Seen.near {k : Ck} {a c x : Int} (s : Seen k a c) (o : k.Ok) (h1 : k.h ≤ x) (h2 : x ≤ 4611686018427387903) (h3 : a ≤ x) :
    x - a - fl (x - a) k.r - 1 ≤ rd k x - c ∧ rd k x - c ≤ x - a + fl (x - a) k.r + 1 ∧ 0 ≤ rd k x - c ∧ (2 ≤ x - a → 1 ≤ rd k x - c) := by
  have r1 := o.r1
  have r2 := o.r2
  rw [rd_ok h1 h2]
  have f1 := fl_nn (d := x - a) (r := k.r) (by omega) (by omega)
  have f2 := fl_le (d := x - a) (r := k.r) (by omega) r2
  rcases s with ⟨s1, s2, s3⟩ | ⟨s1, rfl⟩
  · have g1 := cor_ge (l := k.l) (d := x - k.h) (r := k.r) (by omega) (by omega)
    have g2 := cor_le (l := k.l) (d := x - k.h) (r := k.r) (by omega) (by omega)
    have g3 := (fl_add (k.h - a) (x - k.h) k.r).1
    rw [show k.h - a + (x - k.h) = x - a by omega] at g3
    omega
  · have g := cor_more (l := k.l) (d := a - k.h) (e := x - a) (r := k.r) (by omega) (by omega) (by omega)
    rw [show a - k.h + (x - a) = x - k.h by omega] at g
    by_cases e : x = a
    · subst e; omega
    · omega
/-- The clock behind an adjustment. -/
theorem Seen.adj {k : Ck} {a c x y : Int} (s : Seen k a c) (o : k.Ok) (h1 : k.h ≤ x) (h2 : x ≤ 4611686018427387903) (h3 : a ≤ k.h) : Seen (k.put x y) a c := by
  have r1 := o.r1
  have e : k.err x = 0 := Ck.err_of h1 h2
  unfold Ck.put
  rw [if_pos e]
  left
  show a ≤ x ∧ -(fl (x - a) k.r) ≤ k.c + (x - k.h) + cor k.l (x - k.h) k.r - c - (x - a) ∧ k.c + (x - k.h) + cor k.l (x - k.h) k.r - c - (x - a) ≤ fl (x - a) k.r
  have g1 := cor_ge (l := k.l) (d := x - k.h) (r := k.r) (by omega) (by omega)
  have g2 := cor_le (l := k.l) (d := x - k.h) (r := k.r) (by omega) (by omega)
  have g3 := (fl_add (k.h - a) (x - k.h) k.r).1
  rw [show k.h - a + (x - k.h) = x - a by omega] at g3
  rcases s with ⟨s1, s2, s3⟩ | ⟨s1, s2⟩
  · omega
  · obtain rfl : a = k.h := by omega
    rw [Int.sub_self, cor_nil] at s2
    omega
theorem Seen.own {k : Ck} {x y : Int} (h1 : k.h ≤ x) (h2 : x ≤ 4611686018427387903) : Seen (k.put x y) x (rd k x) := by
  have e : k.err x = 0 := Ck.err_of h1 h2
  unfold Ck.put
  rw [if_pos e, rd_ok h1 h2]
  left
  show x ≤ x ∧ -(fl (x - x) k.r) ≤ k.c + (x - k.h) + cor k.l (x - k.h) k.r - (k.c + (x - k.h) + cor k.l (x - k.h) k.r) - (x - x) ∧ k.c + (x - k.h) + cor k.l (x - k.h) k.r - (k.c + (x - k.h) + cor k.l (x - k.h) k.r) - (x - x) ≤ fl (x - x) k.r
  rw [Int.sub_self, fl_zero]
  omega
theorem rd_bd {k : Ck} {x : Int} (o : k.Ok) (h1 : k.h ≤ x) (h2 : x ≤ 4611686018427387903) : -9000000000000000000 ≤ rd k x ∧ rd k x ≤ 9000000000000000000 := by
  have e : k.err x = 0 := Ck.err_of h1 h2
  obtain ⟨_, _, _, _, _, _, b1, b2, c1, c2⟩ := o.now h1 h2
  unfold rd
  rw [if_pos e]
  have : (k.now x).h = x := rfl
  omega

theorem snoc_get {l : List Int} {n j : Nat} {x a : Int} (hl : l.length = n) (h : (l ++ [x])[j]? = some a) : (j < n ∧ l[j]? = some a) ∨ (j = n ∧ a = x) := by
  rcases Nat.lt_or_ge j n with hj | hj
  · rw [List.getElem?_append_left (by omega)] at h; exact .inl ⟨hj, h⟩
  · rw [List.getElem?_append_right (by omega)] at h
    have : j - l.length < 1 := by
      rcases Nat.lt_or_ge (j - l.length) 1 with q | q
      · exact q
      · rw [List.getElem?_eq_none (by simpa using q)] at h; cases h
    rw [show j - l.length = 0 by omega] at h
    simp at h
    exact .inr ⟨by omega, h.symm⟩

section
variable {L i : Nat} {h x : Int} {k : Ck} {hs cs : List Int}
theorem Inv.start (r : Int) (r1 : 1 ≤ r) (r2 : r ≤ 500) : Inv L 0 0 ⟨r, 0, 0, 0, 0⟩ [] [] :=
  ⟨rfl, rfl, ok_new (by omega) (by omega) (by omega) (by omega) r1 r2, Int.le_refl _, fun _ => rfl, by omega, fun j a c h => by simp at h⟩
theorem Inv.put (v : Inv L i h k hs cs) (y : Int) (hx : h ≤ x) (hx2 : x ≤ h + 4294967295) (h60 : i < 60) (hi : i < L) : Inv L (i + 1) x (k.put x y) (hs ++ [x]) (cs ++ [rd k x]) := by
  have hb := v.hb
  have h1 : k.h ≤ x := Int.le_trans v.hk hx
  have h2 : x ≤ 4611686018427387903 := by omega
  have e : k.err x = 0 := Ck.err_of h1 h2
  have eh : (k.put x y).h = x := by unfold Ck.put; rw [if_pos e]; rfl
  have h0 := v.ok.h1
  refine ⟨by simp [v.l1], by simp [v.l2], v.ok.put x y, by omega, fun _ => eh, by omega, ?_⟩
  intro j a c ha hc
  rcases snoc_get v.l1 ha with ⟨j1, ha⟩ | ⟨j1, rfl⟩
  · rcases snoc_get v.l2 hc with ⟨_, hc⟩ | ⟨j2, _⟩
    · obtain ⟨q1, q2, q3, q4, q5⟩ := v.each j a c ha hc
      have := v.hl (by omega)
      exact ⟨q1, by omega, q3, q4, q5.adj v.ok h1 h2 (by omega)⟩
    · omega
  · rcases snoc_get v.l2 hc with ⟨j2, _⟩ | ⟨_, rfl⟩
    · omega
    · have := rd_bd v.ok h1 h2
      exact ⟨by omega, by omega, this.1, this.2, Seen.own h1 h2⟩
theorem Inv.keep (v : Inv L i h k hs cs) (hx : h ≤ x) (hx2 : x ≤ h + 4294967295) (h60 : i < 60) (hi : L ≤ i) : Inv L (i + 1) x k (hs ++ [x]) (cs ++ [rd k x]) := by
  have hb := v.hb
  have h1 : k.h ≤ x := Int.le_trans v.hk hx
  have h2 : x ≤ 4611686018427387903 := by omega
  have h0 := v.ok.h1
  refine ⟨by simp [v.l1], by simp [v.l2], v.ok, h1, fun _ => by omega, by omega, ?_⟩
  intro j a c ha hc
  rcases snoc_get v.l1 ha with ⟨j1, ha⟩ | ⟨j1, rfl⟩
  · rcases snoc_get v.l2 hc with ⟨_, hc⟩ | ⟨j2, _⟩
    · obtain ⟨q1, q2, q3, q4, q5⟩ := v.each j a c ha hc
      exact ⟨q1, by omega, q3, q4, q5⟩
    · omega
  · rcases snoc_get v.l2 hc with ⟨j2, _⟩ | ⟨_, rfl⟩
    · omega
    · have := rd_bd v.ok h1 h2
      exact ⟨by omega, by omega, this.1, this.2, .inr ⟨h1, rd_ok h1 h2⟩⟩
end
end Go.Proofs.Ytnooneejidpdaaa
