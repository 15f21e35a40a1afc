/- A sample as plain numbers; the calls of package sample that ask samples, and the document's: what each returns. -/
import Derived.Test.YtcmmhgalnfleoaaStamp
import Derived.BigQuiet
import Derived.WalkSmall
namespace Go.Proofs.Ytcmmhgalnfleoaa
open Go.RowKit

/-- A sample: Offset, Delay, At, Slewed. -/
structure Sm where
  o : Int
  d : Int
  t : Int
  s : Int
/-- All four are numbers of 64 bits. -/
structure Sm.In (p : Sm) : Prop where
  o1 : -9223372036854775808 ≤ p.o
  o2 : p.o ≤ 9223372036854775807
  d1 : -9223372036854775808 ≤ p.d
  d2 : p.d ≤ 9223372036854775807
  t1 : -9223372036854775808 ≤ p.t
  t2 : p.t ≤ 9223372036854775807
  s1 : -9223372036854775808 ≤ p.s
  s2 : p.s ≤ 9223372036854775807
/-- How far off it is still. -/
def nowOf (o s n : Int) : Int := stp (o - stp (n - s))
/-- Whether it is fresh. -/
def freshOf (t h l : Int) : Bool := decide (t ≤ h) && decide (stp (h - t) ≤ l)
/-- Which is better. -/
def bet (d t d' t' : Int) : Bool := decide (d < d') || (d == d' && decide (t' < t))

theorem now_any (o d t s n : Int) (w : World) (h1 : -9223372036854775808 ≤ o) (h2 : o ≤ 9223372036854775807) (h3 : -9223372036854775808 ≤ s) (h4 : s ≤ 9223372036854775807) (h5 : -9223372036854775808 ≤ n) (h6 : n ≤ 9223372036854775807) :
    Calls Try.prog 34 #[.agg #[.int .i64 o, .int .i64 d, .int .i64 t, .int .i64 s], .int .i64 n] w fun e w' => e = .returned (.int .i64 (nowOf o s n)) ∧ Below w.heap.size w w' := by
  obtain ⟨b1, b2⟩ := stp_bd (n - s)
  have S0 := Lib.hid (fun w => sub_any n s w h5 h6 h3 h4)
  have S1 := Lib.hid (fun w => sub_any o (stp (n - s)) w h1 h2 b1 b2)
  have c0 := fun (W : World) (k : Nat) => Calls.quiet_of_same (w := W) (n := k) ((S0.out _).mono fun _ _ h => ⟨h.1, h.2.symm⟩)
  have c1 := fun (W : World) (k : Nat) => Calls.quiet_of_same (w := W) (n := k) ((S1.out _).mono fun _ _ h => ⟨h.1, h.2.symm⟩)
  go_enter Try.func34, Try.ntmps34
  go_wp2_with fail
  go_quiet (first | with_reducible exact c0 _ _ | with_reducible exact c1 _ _)
  go_wp2
  go_ret
  exact ⟨rfl, below_drewN (bel_alloc _ _) _⟩

theorem rnow_any (o d t s n : Int) (w : World) (h1 : -9223372036854775808 ≤ o) (h2 : o ≤ 9223372036854775807) (h3 : -9223372036854775808 ≤ s) (h4 : s ≤ 9223372036854775807) (h5 : -9223372036854775808 ≤ n) (h6 : n ≤ 9223372036854775807) :
    Calls Try.prog 31 #[.agg #[.int .i64 o, .int .i64 d, .int .i64 t, .int .i64 s], .int .i64 n] w fun e w' => e = .returned (.int .i64 (nowOf o s n)) ∧ Below w.heap.size w w' := by
  obtain ⟨b1, b2⟩ := stp_bd (n - s)
  have S0 := Lib.hid (fun w => rsub_any n s w h5 h6 h3 h4)
  have S1 := Lib.hid (fun w => rsub_any o (stp (n - s)) w h1 h2 b1 b2)
  have c0 := fun (W : World) (k : Nat) => Calls.quiet_of_same (w := W) (n := k) ((S0.out _).mono fun _ _ h => ⟨h.1, h.2.symm⟩)
  have c1 := fun (W : World) (k : Nat) => Calls.quiet_of_same (w := W) (n := k) ((S1.out _).mono fun _ _ h => ⟨h.1, h.2.symm⟩)
  go_enter Try.func31, Try.ntmps31
  go_wp2_with fail
  go_quiet (first | with_reducible exact c0 _ _ | with_reducible exact c1 _ _)
  go_wp2
  go_ret
  exact ⟨rfl, below_drewN (bel_alloc _ _) _⟩

theorem fresh_any (o d t s h l : Int) (w : World) (h1 : -9223372036854775808 ≤ t) (h2 : t ≤ 9223372036854775807) (h3 : -9223372036854775808 ≤ h) (h4 : h ≤ 9223372036854775807) :
    Calls Try.prog 40 #[.agg #[.int .i64 o, .int .i64 d, .int .i64 t, .int .i64 s], .int .i64 h, .int .i64 l] w fun e w' => e = .returned (.bool (freshOf t h l)) ∧ Below w.heap.size w w' := by
  have S0 := Lib.hid (fun w => sub_any h t w h3 h4 h1 h2)
  by_cases ht : t ≤ h
  · have hF := Lib.hid (show freshOf t h l = decide (stp (h - t) ≤ l) by simp [freshOf, ht])
    have hb : decide (t ≤ h) = true := by simp [ht]
    go_enter Try.func40, Try.ntmps40
    go_wp2_with fail
    refine (S0.out _).mono ?_
    rintro e w1 ⟨rfl, rfl⟩
    go_wp2
    go_ret
    refine ⟨?_, bel_alloc _ _⟩
    rw [hF.out]; rfl
  · have hF := Lib.hid (show freshOf t h l = false by simp [freshOf, ht])
    have hb : decide (t ≤ h) = false := by simp [ht]
    go_enter Try.func40, Try.ntmps40
    go_wp2
    go_ret
    refine ⟨?_, bel_alloc _ _⟩
    rw [hF.out]; rfl

theorem rfresh_any (o d t s h l : Int) (w : World) (h1 : -9223372036854775808 ≤ t) (h2 : t ≤ 9223372036854775807) (h3 : -9223372036854775808 ≤ h) (h4 : h ≤ 9223372036854775807) :
    Calls Try.prog 29 #[.agg #[.int .i64 o, .int .i64 d, .int .i64 t, .int .i64 s], .int .i64 h, .int .i64 l] w fun e w' => e = .returned (.bool (freshOf t h l)) ∧ Below w.heap.size w w' := by
  have S0 := Lib.hid (fun w => rsub_any h t w h3 h4 h1 h2)
  by_cases ht : t ≤ h
  · have hF := Lib.hid (show freshOf t h l = decide (stp (h - t) ≤ l) by simp [freshOf, ht])
    have hb : decide (t ≤ h) = true := by simp [ht]
    go_enter Try.func29, Try.ntmps29
    go_wp2_with fail
    refine (S0.out _).mono ?_
    rintro e w1 ⟨rfl, rfl⟩
    go_wp2
    go_ret
    refine ⟨?_, bel_alloc _ _⟩
    rw [hF.out]; rfl
  · have hF := Lib.hid (show freshOf t h l = false by simp [freshOf, ht])
    have hb : decide (t ≤ h) = false := by simp [ht]
    go_enter Try.func29, Try.ntmps29
    go_wp2
    go_ret
    refine ⟨?_, bel_alloc _ _⟩
    rw [hF.out]; rfl

theorem measured_any (o d t s o' d' t' s' : Int) (w : World) :
    Calls Try.prog 41 #[.agg #[.int .i64 o, .int .i64 d, .int .i64 t, .int .i64 s], .agg #[.int .i64 o', .int .i64 d', .int .i64 t', .int .i64 s']] w fun e w' => e = .returned (.bool (bet d t d' t')) ∧ Below w.heap.size w w' := by
  by_cases hd : d = d'
  · have hb : (d != d') = false := by simp [hd]
    have hB := Lib.hid (show bet d t d' t' = decide (t' < t) by simp [bet, hd])
    clear hd
    go_enter Try.func41, Try.ntmps41
    go_wp2
    go_ret
    refine ⟨?_, (bel_alloc _ _).alloc (by simp) _⟩
    rw [hB.out]; rfl
  · have hb : (d != d') = true := by simp [hd]
    have hB := Lib.hid (show bet d t d' t' = decide (d < d') by simp [bet, hd])
    clear hd
    go_enter Try.func41, Try.ntmps41
    go_wp2
    go_ret
    refine ⟨?_, (bel_alloc _ _).alloc (by simp) _⟩
    rw [hB.out]; rfl

theorem better_any (o d t s o' d' t' s' : Int) (w : World) :
    Calls Try.prog 33 #[.agg #[.int .i64 o, .int .i64 d, .int .i64 t, .int .i64 s], .agg #[.int .i64 o', .int .i64 d', .int .i64 t', .int .i64 s']] w fun e w' => e = .returned (.bool (bet d t d' t')) ∧ Below w.heap.size w w' := by
  have M := Lib.hid (fun w => measured_any o d t s o' d' t' s' w)
  have hf : ∀ w : World, (Instr.field 82 (.agg #[.int .i64 o, .int .i64 d, .int .i64 t, .int .i64 s]) 0).run Try.prog w = .ok (.agg #[.int .i64 o, .int .i64 d, .int .i64 t, .int .i64 s]) w := fun _ => by kernel_rfl
  go_enter Try.func33, Try.ntmps33
  go_wp2_with fail
  refine (M.out _).mono ?_
  rintro e w1 ⟨rfl, hg⟩
  go_wp2
  go_ret
  exact ⟨rfl, bel_trans ((bel_alloc _ _).alloc (by simp) _) hg⟩

theorem rbetter_any (o d t s o' d' t' s' : Int) (w : World) :
    Calls Try.prog 30 #[.agg #[.int .i64 o, .int .i64 d, .int .i64 t, .int .i64 s], .agg #[.int .i64 o', .int .i64 d', .int .i64 t', .int .i64 s']] w fun e w' => e = .returned (.bool (bet d t d' t')) ∧ Below w.heap.size w w' := by
  rcases Int.lt_trichotomy d d' with hd | hd | hd
  · have b1 : decide (d < d') = true := by simp [hd]
    have hB := Lib.hid (show bet d t d' t' = true by simp [bet, hd])
    go_enter Try.func30, Try.ntmps30
    go_wp2
    go_ret
    refine ⟨?_, (bel_alloc _ _).alloc (by simp) _⟩
    rw [hB.out]; rfl
  · have b1 : decide (d < d') = false := by simp; omega
    have b2 : (d == d') = true := by simp [hd]
    have hB := Lib.hid (show bet d t d' t' = decide (t' < t) by simp [bet, hd])
    clear hd
    go_enter Try.func30, Try.ntmps30
    go_wp2
    go_ret
    refine ⟨?_, (bel_alloc _ _).alloc (by simp) _⟩
    rw [hB.out]; rfl
  · have b1 : decide (d < d') = false := by simp; omega
    have b2 : (d == d') = false := by simp; omega
    have hB := Lib.hid (show bet d t d' t' = false by simp [bet]; omega)
    go_enter Try.func30, Try.ntmps30
    go_wp2
    go_ret
    refine ⟨?_, (bel_alloc _ _).alloc (by simp) _⟩
    rw [hB.out]; rfl
end Go.Proofs.Ytcmmhgalnfleoaa
