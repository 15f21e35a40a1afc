/- QuorumEnough's walk. -/
import Derived.Test.YtcmmhgalnfleoaaWch
namespace Go.Proofs.Ytcmmhgalnfleoaa
open Go.RowKit

theorem choE_zero (q n : Nat) : (choE q n = 0) ↔ (0 < q ∧ q ≤ n) := by
  unfold choE
  by_cases h : (q : Int) < 1
  · rw [if_pos h]; constructor
    · intro h; omega
    · intro h; omega
  · rw [if_neg h]
    by_cases h2 : (n : Int) < q
    · rw [if_pos h2]; constructor
      · intro h; omega
      · intro h; omega
    · rw [if_neg h2]; constructor
      · intro _; omega
      · intro _; rfl
theorem cho_both {q p : Nat} (xs : List Int) (h : choE q xs.length = 0) (g : choE p xs.length = 0) : cho q xs = cho p xs := by
  rw [choE_zero] at h g
  rw [(cho_ok (q := q) (l := xs) (by omega) (by omega)).1, (cho_ok (q := p) (l := xs) (by omega) (by omega)).1]

set_option maxRecDepth 100000 in
set_option maxHeartbeats 4000000 in
theorem walk_enough (A0 : Option Addr) (n0 c0 : Nat) (q p : Int) (w : World) (hz0 : IntsIn .i64 w A0 n0 c0) (hq0 : 0 ≤ q) (hq1 : q ≤ 255) (hp0 : 0 ≤ p) (hp1 : p ≤ 255) :
    Calls Try.prog 6 #[.slice A0 n0 c0, .int .u8 q, .int .u8 p] w fun e w' => e = .returned (.bool true) ∧ Below w.heap.size w w' := by
  obtain ⟨l1, l2, xs, hl, hwx, hx, hn⟩ := hz0
  have m1 : c0 ≤ 9223372036854775807 := by unfold maxLen at l2; omega
  have X := Lib.hid (And.intro hl hx)
  clear hwx hx hn l2
  obtain ⟨qn, rfl⟩ : ∃ qn : Nat, q = (qn : Int) := ⟨q.toNat, by omega⟩
  obtain ⟨pn, rfl⟩ : ∃ pn : Nat, p = (pn : Int) := ⟨p.toNat, by omega⟩
  have e1 := choE_zero qn n0
  have e2 := choE_zero pn n0
  have e3 := fun h g => cho_both (q := qn) (p := pn) xs (by rw [hl]; exact h) (by rw [hl]; exact g)
  have K1 := Lib.hid (fun (w : World) B d hn hv => cfor (w := w) (B := B) (d := d) qn xs hl hn hv)
  have K2 := Lib.hid (fun (w : World) B d hn hv => cfor (w := w) (B := B) (d := d) pn xs hl hn hv)
  generalize cho qn xs = a at e3 K1
  generalize cho pn xs = b at e3 K2
  generalize choE qn n0 = ea at e1 e3 K1
  generalize choE pn n0 = eb at e2 e3 K2
  clear hl
  have E := Lib.hid (And.intro e1 (And.intro e2 e3))
  clear e1 e2 e3
  go_enter Try.func6, Try.ntmps6
  go_wp2_with fail
  refine (alive_any w).mono ?_
  rintro e w1 ⟨rfl, hb1⟩
  have H1 := Lib.hid hb1
  clear hb1
  by_cases q1 : 100 < n0
  · go_wp2_with fail
    refine (alive_any _).mono ?_
    rintro e w2 ⟨rfl, hb2⟩
    have H2 := Lib.hid (bel_trans H1.out hb2)
    clear hb2 H1
    go_wp2
    go_ret
    exact ⟨rfl, H2.out⟩
  · go_wp2_with fail
    refine (vfor xs X.out.1 (by omega) (X.out.2.later H1.out)).mono ?_
    rintro e w2 ⟨B, d, rfl, hv, hb2⟩
    have H2 := Lib.hid (And.intro hv (bel_trans H1.out hb2))
    clear hv hb2 H1
    go_wp2_with fail
    refine (K1.out _ _ _ (by omega) H2.out.1).mono ?_
    rintro e w3 ⟨rfl, hb3⟩
    have H3 := Lib.hid (bel_trans H2.out.2 hb3)
    clear hb3 H2
    go_wp2_with fail
    refine (vfor xs X.out.1 (by omega) (X.out.2.later H3.out)).mono ?_
    rintro e w4 ⟨B2, d2, rfl, hv, hb4⟩
    have H4 := Lib.hid (And.intro hv (bel_trans H3.out hb4))
    clear hv hb4 H3
    go_wp2_with fail
    refine (K2.out _ _ _ (by omega) H4.out.1).mono ?_
    rintro e w5 ⟨rfl, hb5⟩
    have H5 := Lib.hid (bel_trans H4.out.2 hb5)
    clear hb5 H4
    have P1 : (0 < qn ∧ qn ≤ n0 ∧ ea = 0) ∨ (qn = 0 ∧ ¬ ea = 0) ∨ (0 < qn ∧ n0 < qn ∧ ¬ ea = 0) := by have := E.out.1; omega
    have P2 : (0 < pn ∧ pn ≤ n0 ∧ eb = 0) ∨ (pn = 0 ∧ ¬ eb = 0) ∨ (0 < pn ∧ n0 < pn ∧ ¬ eb = 0) := by have := E.out.2.1; omega
    have E3 := E.out.2.2
    clear E X K1 K2
    rcases P1 with ⟨u1, u2, rfl⟩ | ⟨rfl, u3⟩ | ⟨u1, u2, u3⟩
    · rcases P2 with ⟨t1, t2, rfl⟩ | ⟨rfl, t3⟩ | ⟨t1, t2, t3⟩
      · obtain rfl := E3 rfl rfl
        clear E3
        go_wp2
        go_ret
        exact ⟨by simp, H5.out⟩
      all_goals
        have t4 : (eb == 0) = false := by simpa using t3
        clear E3
        go_wp2
        go_ret
        exact ⟨by simp, H5.out⟩
    all_goals
      have u4 : (ea == 0) = false := by simpa using u3
      clear E3
      rcases P2 with ⟨t1, t2, rfl⟩ | ⟨rfl, t3⟩ | ⟨t1, t2, t3⟩
      · go_wp2
        go_ret
        exact ⟨by simp, H5.out⟩
      all_goals
        have t4 : (eb == 0) = false := by simpa using t3
        go_wp2
        go_ret
        exact ⟨by simp, H5.out⟩
end Go.Proofs.Ytcmmhgalnfleoaa
