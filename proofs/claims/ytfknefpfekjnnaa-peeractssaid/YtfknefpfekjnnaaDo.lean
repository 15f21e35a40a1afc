/- Fail and Good: each hands its closure to one method. -/
import Derived.Test.YtfknefpfekjnnaaBk
namespace Go.Proofs.Ytfknefpfekjnnaa
open Go.RowKit

set_option maxHeartbeats 1000000 in
theorem become_fail (g b : Nat) (k : B) (w : World) (hg : w.cell? ⟨g, 0, none⟩ = some (.pointer (some ⟨b, 0, none⟩))) (hc : Bk w b k) (o : k.Ok) :
    Calls Try.prog 57 #[.pointer (some ⟨b, 0, none⟩), .func (.func 58) #[] #[.pointer (some ⟨g, 0, none⟩)]] w fun e w' => e = .returned (.int .i64 (nx k.n k.m)) ∧ Bk w' b k.fail ∧ But b w w' := by
  have K := Lib.hid (fail1_any g b k w hg hc o)
  obtain ⟨l, m, n, t⟩ := k
  have HC := Lib.hid hc
  clear hg hc o
  simp only [B.fail] at *
  generalize nx n m = u at *
  go_enter Try.func57, Try.ntmps57
  go_wp2_with fail
  refine K.out.mono ?_
  rintro e w1 ⟨rfl, hb1⟩
  have G := Lib.hid (HC.out.below hb1)
  obtain ⟨f0, f1, f2, f3⟩ := G.out.facts
  have p2 : w1.frozen? ⟨b, 2, none⟩ = false := frozen_row G.out 2
  have p3 : w1.frozen? ⟨b, 3, none⟩ = false := frozen_row G.out 3
  have HB := Lib.hid hb1
  clear hb1
  go_wp2
  go_ret
  refine ⟨rfl, ?_, ?_⟩
  · have q1 := heap_setCell_same w1 b 2 (.int .i64 u) _ _ _ G.out
    have q2 := heap_setCell_same _ b 3 (.int .i64 (t + 1)) _ _ _ q1
    exact q2
  · exact ((But.of_below HB.out).setCell 2 _).setCell 3 _
set_option maxHeartbeats 1000000 in
theorem become_good (g b : Nat) (k : B) (w : World) (hg : w.cell? ⟨g, 0, none⟩ = some (.pointer (some ⟨b, 0, none⟩))) (hc : Bk w b k) :
    Calls Try.prog 57 #[.pointer (some ⟨b, 0, none⟩), .func (.func 61) #[] #[.pointer (some ⟨g, 0, none⟩)]] w fun e w' => e = .returned (.int .i64 k.l) ∧ Bk w' b k.good ∧ But b w w' := by
  have K := Lib.hid (good1_any g b k w hg hc)
  obtain ⟨l, m, n, t⟩ := k
  have G := Lib.hid hc
  obtain ⟨f0, f1, f2, f3⟩ := G.out.facts
  have p2 : w.frozen? ⟨b, 2, none⟩ = false := frozen_row G.out 2
  have p3 : w.frozen? ⟨b, 3, none⟩ = false := frozen_row G.out 3
  clear hg hc
  simp only [B.good] at *
  go_enter Try.func57, Try.ntmps57
  go_wp2_with fail
  refine K.out.mono ?_
  rintro e w1 ⟨rfl, rfl⟩
  go_wp2
  go_ret
  refine ⟨rfl, ?_, ?_⟩
  · have q1 := heap_setCell_same w b 2 (.int .i64 l) _ _ _ G.out
    have q2 := heap_setCell_same _ b 3 (.int .i64 0) _ _ _ q1
    exact q2
  · exact ((But.of_below (Below.refl _ _)).setCell 2 _).setCell 3 _
theorem become_nil (f : Value) (w : World) : Calls Try.prog 57 #[.pointer none, f] w fun e w' => e = .returned (.int .i64 0) ∧ w = w' := by
  go_enter Try.func57, Try.ntmps57
  go_wp2
  go_ret
  exact ⟨rfl, rfl⟩

theorem cell_new (w : World) (v : Value) (t : TypeId) : (w.alloc (.cells #[v] t)).cell? ⟨w.heap.size, 0, none⟩ = some v := by simp
section
variable (b : Nat) (k : B) (w : World) (hc : Bk w b k)
include hc
set_option maxHeartbeats 1000000 in
theorem bkfail_any (o : k.Ok) : Calls Try.prog 37 #[.pointer (some ⟨b, 0, none⟩)] w fun e w' => e = .returned (.int .i64 (nx k.n k.m)) ∧ Bk w' b k.fail ∧ But b w w' := by
  have K := Lib.hid (become_fail w.heap.size b k _ (cell_new w _ 72) (hc.below (bel_alloc _ _)) o)
  have c0 := cell_new w (.pointer (some ⟨b, 0, none⟩)) 72
  clear hc o
  go_enter Try.func37, Try.ntmps37
  go_wp2_with fail
  refine K.out.mono ?_
  rintro e w1 ⟨rfl, hb1, hb2⟩
  have HB := Lib.hid (And.intro hb1 ((But.of_below (bel_alloc _ _)).trans hb2))
  clear hb1 hb2 K
  go_wp2
  go_ret
  exact ⟨rfl, HB.out⟩
set_option maxHeartbeats 1000000 in
theorem bkgood_any : Calls Try.prog 43 #[.pointer (some ⟨b, 0, none⟩)] w fun e w' => e = .returned (.int .i64 k.l) ∧ Bk w' b k.good ∧ But b w w' := by
  have K := Lib.hid (become_good w.heap.size b k _ (cell_new w _ 72) (hc.below (bel_alloc _ _)))
  have c0 := cell_new w (.pointer (some ⟨b, 0, none⟩)) 72
  clear hc
  go_enter Try.func43, Try.ntmps43
  go_wp2_with fail
  refine K.out.mono ?_
  rintro e w1 ⟨rfl, hb1, hb2⟩
  have HB := Lib.hid (And.intro hb1 ((But.of_below (bel_alloc _ _)).trans hb2))
  clear hb1 hb2 K
  go_wp2
  go_ret
  exact ⟨rfl, HB.out⟩
end
theorem bkfail_nil (w : World) : Calls Try.prog 37 #[.pointer none] w fun e w' => e = .returned (.int .i64 0) ∧ Below w.heap.size w w' := by
  have K := Lib.hid (fun f => become_nil f (w.alloc (.cells #[.pointer none] 72)))
  have c0 := cell_new w (.pointer none) 72
  go_enter Try.func37, Try.ntmps37
  go_wp2_with fail
  refine (K.out _).mono ?_
  rintro e w1 ⟨rfl, rfl⟩
  go_wp2
  go_ret
  exact ⟨rfl, bel_alloc _ _⟩
theorem bkgood_nil (w : World) : Calls Try.prog 43 #[.pointer none] w fun e w' => e = .returned (.int .i64 0) ∧ Below w.heap.size w w' := by
  have K := Lib.hid (fun f => become_nil f (w.alloc (.cells #[.pointer none] 72)))
  have c0 := cell_new w (.pointer none) 72
  go_enter Try.func43, Try.ntmps43
  go_wp2_with fail
  refine (K.out _).mono ?_
  rintro e w1 ⟨rfl, rfl⟩
  go_wp2
  go_ret
  exact ⟨rfl, bel_alloc _ _⟩
/-- A backoff of the walk's own, from call to call. -/
structure St (w wi : World) (b : Nat) (k : B) : Prop where
  bk : Bk wi b k
  bel : Below w.heap.size w wi
  own : w.heap.size ≤ b
theorem St.below {w wi wj : World} {b : Nat} {k : B} (s : St w wi b k) (h : Below wi.heap.size wi wj) : St w wj b k := ⟨s.bk.below h, s.bel.trans (h.mono s.bel.size), s.own⟩
theorem St.but {w wi wj : World} {b : Nat} {k k' : B} (s : St w wi b k) (h : Bk wj b k') (hb : But b wi wj) : St w wj b k' := ⟨h, s.bel.trans (hb.below s.bel.size s.own), s.own⟩
/-- The same, its block under a name. -/
theorem new_ex {x y : Int} {w : World} (h : newE x y = 0) :
    Calls Try.prog 31 #[.int .i64 x, .int .i64 y] w fun e w' => ∃ b, e = .returned (.tuple #[.pointer (some ⟨b, 0, none⟩), .int .i64 0]) ∧ w.heap.size ≤ b ∧ Bk w' b ⟨x, y, x, 0⟩ ∧ Below w.heap.size w w' :=
  (new_ok x y w h).mono fun _ _ ⟨e, hc, hb⟩ => ⟨_, e, Nat.le_refl _, hc, hb⟩
end Go.Proofs.Ytfknefpfekjnnaa
