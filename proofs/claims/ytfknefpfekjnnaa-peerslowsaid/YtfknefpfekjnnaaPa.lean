/- Ask and New of package peer. -/
import Derived.Test.YtfknefpfekjnnaaPf
import Derived.Test.YtfknefpfekjnnaaNames
namespace Go.Proofs.Ytfknefpfekjnnaa
open Go.RowKit

/-- Ask's error. -/
def Pr.askE (k : Pr) (h x : Int) : Int := if hm h = false then 3 else if k.isDue h = false then 9 else if x = 0 then 2 else 0
theorem askE_ok {k : Pr} {h x : Int} (e : k.askE h x = 0) : hm h = true ∧ k.isDue h = true ∧ x ≠ 0 := by
  unfold Pr.askE at e
  cases h1 : hm h <;> cases h2 : k.isDue h <;> by_cases h3 : x = 0 <;> simp [h1, h2, h3] at e ⊢
section
variable (p b : Nat) (k : Pr) (w : World) (h : Pe w p b k)
include h
set_option maxHeartbeats 1000000 in
theorem ask_bad (x c ck : Int) (he : k.askE x ck ≠ 0) : Calls Try.prog 13 #[.pointer (some ⟨p, 0, none⟩), .int .i64 x, .int .i64 c, .int .u64 ck] w fun e w' => e = .returned (.tuple #[.slice none 0 0, .int .i64 (k.askE x ck)]) ∧ w = w' := by
  have KH := Lib.hid (fun w => hm_any x w)
  have KD := Lib.hid (due_any p b k w h x)
  unfold Pr.askE at he ⊢
  clear h
  cases h1 : hm x with
  | false =>
    rw [h1] at KH
    clear h1 he KD
    go_enter Try.func13, Try.ntmps13
    go_wp2_with fail
    refine (KH.out _).mono ?_
    rintro e w1 ⟨rfl, rfl⟩
    go_wp2
    go_ret2
    exact ⟨rfl, rfl⟩
  | true =>
    rw [h1] at KH
    cases h2 : k.isDue x with
    | false =>
      rw [h2] at KD
      clear h1 h2 he
      go_enter Try.func13, Try.ntmps13
      go_wp2_with fail
      refine (KH.out _).mono ?_
      rintro e w1 ⟨rfl, rfl⟩
      go_wp2_with fail
      refine KD.out.mono ?_
      rintro e w1 ⟨rfl, rfl⟩
      go_wp2
      go_ret2
      exact ⟨rfl, rfl⟩
    | true =>
      rw [h2] at KD
      have h3 : ck = 0 := by
        by_cases h3 : ck = 0
        · exact h3
        · rw [h1, h2, if_neg (by simp), if_neg (by simp), if_neg h3] at he; exact absurd rfl he
      subst h3
      clear h1 h2 he
      go_enter Try.func13, Try.ntmps13
      go_wp2_with fail
      refine (KH.out _).mono ?_
      rintro e w1 ⟨rfl, rfl⟩
      go_wp2_with fail
      refine KD.out.mono ?_
      rintro e w1 ⟨rfl, rfl⟩
      go_wp2
      go_ret2
      exact ⟨rfl, rfl⟩
set_option maxHeartbeats 1000000 in
theorem ask_ok (x c ck : Int) (he : k.askE x ck = 0) (k1 : 0 ≤ ck) (k2 : ck ≤ 18446744073709551615) : Calls Try.prog 13 #[.pointer (some ⟨p, 0, none⟩), .int .i64 x, .int .i64 c, .int .u64 ck] w fun e w' =>
    ∃ g cp, e = .returned (.tuple #[.slice (some ⟨g, 0, none⟩) 48 cp, .int .i64 0]) ∧ w.heap.size ≤ g ∧ Bytes w' (some ⟨g, 0, none⟩) 48 cp (query ck).bytes ∧ Pe w' p b (k.ask x c ck) ∧ But p w w' := by
  obtain ⟨h1, h2, h3⟩ := askE_ok he
  have KH := Lib.hid (fun w => hm_any x w)
  have KD := Lib.hid (due_any p b k w h x)
  have KQ := Lib.hid (fun w => query_any ck w k1 k2)
  rw [h1] at KH
  rw [h2] at KD
  have HB := Lib.hid h
  have HA := Lib.hid ((query ck).bytes_all (query_in ck k1 k2) (query_fits ck))
  have p2 : w.frozen? ⟨p, 2, none⟩ = false := frozen_row h.blk 2
  obtain ⟨f0, f1, f2, f3, f4, f5, f6⟩ := h.facts
  clear h h1 h2 he f0 f1 f3
  have t0 : (ck == 0) = false := by simp [h3]
  obtain ⟨l, m, d, n, t, st, due, sent, clk, ck0⟩ := k
  simp only [Pr.ask] at *
  go_enter Try.func13, Try.ntmps13
  go_wp2_with fail
  refine (KH.out _).mono ?_
  rintro e w1 ⟨rfl, rfl⟩
  go_wp2_with fail
  refine KD.out.mono ?_
  rintro e w1 ⟨rfl, rfl⟩
  have p4 : w.frozen? ⟨p, 4, none⟩ = false := frozen_row HB.out.blk 4
  have p5 : w.frozen? ⟨p, 5, none⟩ = false := frozen_row HB.out.blk 5
  have p6 : w.frozen? ⟨p, 6, none⟩ = false := frozen_row HB.out.blk 6
  have HW : Hid (Pe ((((w.setCell ⟨p, 2, none⟩ (.int .i64 1)).setCell ⟨p, 4, none⟩ (.int .i64 x)).setCell ⟨p, 5, none⟩ (.int .i64 c)).setCell ⟨p, 6, none⟩ (.int .u64 ck)) p b ⟨l, m, d, n, t, 1, due, x, c, ck⟩ ∧ But p w ((((w.setCell ⟨p, 2, none⟩ (.int .i64 1)).setCell ⟨p, 4, none⟩ (.int .i64 x)).setCell ⟨p, 5, none⟩ (.int .i64 c)).setCell ⟨p, 6, none⟩ (.int .u64 ck))) := by
    have q1 := heap_setCell_same w p 2 (.int .i64 1) _ _ _ HB.out.blk
    have e1 := heap_setCell_same _ p 4 (.int .i64 x) _ _ _ q1
    have e2 := heap_setCell_same _ p 5 (.int .i64 c) _ _ _ e1
    have e3 := heap_setCell_same _ p 6 (.int .u64 ck) _ _ _ e2
    have hb := ((((But.of_below (b := p) (Below.refl w.heap.size w)).setCell 2 (.int .i64 1)).setCell 4 (.int .i64 x)).setCell 5 (.int .i64 c)).setCell 6 (.int .u64 ck)
    exact ⟨⟨e3, hb.bk HB.out.bk (fun e => HB.out.ne e.symm)⟩, hb⟩
  go_wp2_with fail
  refine (KQ.out _).mono ?_
  rintro e w3 ⟨g, cp, rfl, hg1, hg2, hc1, hc2, hh, hb3⟩
  have H3 := Lib.hid (And.intro (show Bytes w3 (some ⟨g, 0, none⟩) 48 cp (query ck).bytes from ⟨(query ck).bytes_length, hc1, hc2, HA.out, fun _ => ⟨g, 0, rfl, hg2, hh⟩, fun e => by cases e⟩) (And.intro (HW.out.1.below hb3) (HW.out.2.trans (But.of_below hb3))))
  have hg := Nat.le_trans HW.out.2.size hg1
  clear hg1 hg2 hc1 hc2 hh hb3 HW
  go_wp2
  go_ret2
  exact ⟨g, cp, rfl, hg, H3.out⟩
end
end Go.Proofs.Ytfknefpfekjnnaa
