/- QuorumLies' walk. -/
import Derived.Test.YtcmmhgalnfleoaaWch
namespace Go.Proofs.Ytcmmhgalnfleoaa
open Go.RowKit

/-- The least and the greatest one, gone through from the first on. -/
def lo (x : Int) (l : List Int) : Int := l.foldl (fun a y => if y < a then y else a) x
def hi (x : Int) (l : List Int) : Int := l.foldl (fun a y => if a < y then y else a) x
theorem lo_snoc (x y : Int) (l : List Int) : lo x (l ++ [y]) = if y < lo x l then y else lo x l := by unfold lo; rw [List.foldl_append]; rfl
theorem hi_snoc (x y : Int) (l : List Int) : hi x (l ++ [y]) = if hi x l < y then y else hi x l := by unfold hi; rw [List.foldl_append]; rfl
theorem lo_le : ∀ (l : List Int) (x : Int), lo x l ≤ x ∧ ∀ y ∈ l, lo x l ≤ y
  | [], x => ⟨Int.le_refl _, fun y h => by cases h⟩
  | z :: l, x => by
    obtain ⟨m, hm⟩ : ∃ m, m = if z < x then z else x := ⟨_, rfl⟩
    obtain ⟨h1, h2⟩ := lo_le l m
    have e : lo x (z :: l) = lo m l := by rw [hm]; rfl
    have h3 : m ≤ x ∧ m ≤ z := by by_cases c : z < x <;> simp [c] at hm <;> omega
    rw [e]
    refine ⟨by omega, fun y hy => ?_⟩
    rcases List.mem_cons.1 hy with rfl | hy
    · omega
    · exact h2 y hy
theorem hi_ge : ∀ (l : List Int) (x : Int), x ≤ hi x l ∧ ∀ y ∈ l, y ≤ hi x l
  | [], x => ⟨Int.le_refl _, fun y h => by cases h⟩
  | z :: l, x => by
    obtain ⟨m, hm⟩ : ∃ m, m = if x < z then z else x := ⟨_, rfl⟩
    obtain ⟨h1, h2⟩ := hi_ge l m
    have e : hi x (z :: l) = hi m l := by rw [hm]; rfl
    have h3 : x ≤ m ∧ z ≤ m := by by_cases c : x < z <;> simp [c] at hm <;> omega
    rw [e]
    refine ⟨by omega, fun y hy => ?_⟩
    rcases List.mem_cons.1 hy with rfl | hy
    · omega
    · exact h2 y hy
theorem between {q : Nat} {hs ls : List Int} (x : Int) (hq : ls.length < hs.length) (h1 : 0 < q) (h2 : q ≤ (ls ++ hs).length) : choE q (ls ++ hs).length = 0 ∧ lo x hs ≤ cho q (ls ++ hs) ∧ cho q (ls ++ hs) ≤ hi x hs := by
  obtain ⟨e1, e2⟩ := cho_ok (q := q) (l := ls ++ hs) (by omega) (by omega)
  refine ⟨e2, ?_⟩
  rw [e1, mid_perm (List.perm_append_comm (l₁ := ls) (l₂ := hs))]
  obtain ⟨k1, k2⟩ := mid_lies hs ls hq
  have m1 := minOf_mem hs (by omega)
  have m2 := maxOf_mem hs (by omega)
  exact ⟨Int.le_trans ((lo_le hs x).2 _ m1) k1, Int.le_trans k2 ((hi_ge hs x).2 _ m2)⟩

set_option maxRecDepth 100000 in
set_option maxHeartbeats 4000000 in
theorem walk_lies (A0 : Option Addr) (n0 c0 : Nat) (A1 : Option Addr) (n1 c1 : Nat) (q : Int) (w : World) (hz0 : IntsIn .i64 w A0 n0 c0) (hz1 : IntsIn .i64 w A1 n1 c1) (hq0 : 0 ≤ q) (hq1 : q ≤ 255) :
    Calls Try.prog 5 #[.slice A0 n0 c0, .slice A1 n1 c1, .int .u8 q] w fun e w' => e = .returned (.bool true) ∧ Below w.heap.size w w' := by
  obtain ⟨l1, l2, xs, hl, hwx, hx, hn⟩ := hz0
  obtain ⟨l3, l4, ys, hly, hwy, hy, hny⟩ := hz1
  have m1 : c0 ≤ 9223372036854775807 := by unfold maxLen at l2; omega
  have m2 : c1 ≤ 9223372036854775807 := by unfold maxLen at l4; omega
  obtain ⟨qn, rfl⟩ : ∃ qn : Nat, q = (qn : Int) := ⟨q.toNat, by omega⟩
  have X := Lib.hid (And.intro hl (And.intro hx hn))
  have Y := Lib.hid (And.intro hly (And.intro hy hny))
  clear hl hwx hx hn hly hwy hy hny
  go_enter Try.func5, Try.ntmps5
  by_cases q1 : n0 + n1 ≤ 100
  · by_cases q2 : qn < 1 ∨ n0 + n1 < qn ∨ qn ≤ 2 * n1
    · have q3 : qn < 1 ∨ (1 ≤ qn ∧ n0 + n1 < qn) ∨ (1 ≤ qn ∧ qn ≤ n0 + n1 ∧ qn ≤ 2 * n1) := by omega
      clear q2
      rcases q3 with q2 | ⟨q2, q3⟩ | ⟨q2, q3, q4⟩
      all_goals
        go_wp2_with fail
        refine (alive_any w).mono ?_
        rintro e w1 ⟨rfl, hb1⟩
        have H1 := Lib.hid hb1
        clear hb1
        go_wp2_with fail
        refine (alive_any _).mono ?_
        rintro e w2 ⟨rfl, hb2⟩
        have H2 := Lib.hid (bel_trans H1.out hb2)
        clear hb2 H1
        go_wp2
        go_ret
        exact ⟨rfl, H2.out⟩
    · have q3 : 1 ≤ qn := by omega
      have q4 : qn ≤ n0 + n1 := by omega
      have q5 : 2 * n1 < qn := by omega
      have q6 : n1 < n0 := by omega
      clear q2
      obtain ⟨x0, hx0⟩ : ∃ x, xs[0]? = some x := ⟨xs[0]'(by have := X.out.1; omega), List.getElem?_eq_getElem _⟩
      obtain ⟨g, o, rfl, _⟩ := X.out.2.1.cell (k := 0) (v := .int .i64 x0) (by rw [List.getElem?_map, hx0]; rfl)
      have HX := Lib.hid hx0
      clear hx0
      go_wp2_with fail
      refine (alive_any w).mono ?_
      rintro e w1 ⟨rfl, hb1⟩
      have H1 := Lib.hid hb1
      clear hb1
      have c0 := src_cell (k := 0) (v := .int .i64 x0) (X.out.2.1.later H1.out) (by rw [List.getElem?_map, HX.out]; rfl)
      rw [Nat.add_zero] at c0
      go_wp2_with fail
      go_region
      go_wp2
      clear c0
      go_loopw [9, 10, 53] (fun v9 v10 v53 wr => ∃ (k : Nat) (a b : Int), k ≤ n0 ∧ v53 = .int .i64 (k : Int) ∧ v9 = .int .i64 a ∧ v10 = .int .i64 b ∧ Hid (a = lo x0 (xs.take k) ∧ b = hi x0 (xs.take k) ∧ Below w.heap.size w wr)) (fun _ _ s _ => n0 - (intOf s).toNat)
      case atStart => exact ⟨0, x0, x0, by omega, rfl, rfl, rfl, Lib.hid ⟨rfl, rfl, H1.out.trans (Below.refl _ _).drew⟩⟩
      case round =>
        clear H1
        obtain ⟨k, a, b, hk, rfl, rfl, rfl, R⟩ := hrel
        by_cases hlt : k < n0
        · obtain ⟨y, hy⟩ : ∃ x, xs[k]? = some x := ⟨xs[k]'(by have := X.out.1; omega), List.getElem?_eq_getElem _⟩
          have c1 := src_cell (k := k) (v := .int .i64 y) (X.out.2.1.later R.out.2.2) (by rw [List.getElem?_map, hy]; rfl)
          obtain ⟨a2, ha2⟩ : ∃ a2, a2 = min a y := ⟨_, rfl⟩
          obtain ⟨b2, hb2⟩ : ∃ b2, b2 = max b y := ⟨_, rfl⟩
          have R2 : Hid (a2 = lo x0 (xs.take (k + 1)) ∧ b2 = hi x0 (xs.take (k + 1)) ∧ Below w.heap.size w wr) := Lib.hid ⟨by rw [take_snoc hy, lo_snoc, ← R.out.1, ha2]; split <;> omega, by rw [take_snoc hy, hi_snoc, ← R.out.2.1, hb2]; split <;> omega, R.out.2.2⟩
          have e1 := ha2.symm
          have e2 := hb2.symm
          clear hy ha2 hb2 R
          go_wp2
          exact ⟨⟨k + 1, a2, b2, by omega, by go_num, rfl, rfl, R2⟩, by simp [intOf]; omega⟩
        · obtain rfl : k = n0 := by omega
          have e : xs.take k = xs := List.take_of_length_le (by have := X.out.1; omega)
          obtain ⟨R1, R2, R3⟩ := R.out
          rw [e] at R1 R2
          have BT := Lib.hid (between (q := qn) (hs := xs) (ls := ys) x0 (by rw [X.out.1, Y.out.1]; omega) (by omega) (by rw [List.length_append, X.out.1, Y.out.1]; omega))
          rw [← R1, ← R2, List.length_append, X.out.1, Y.out.1, Nat.add_comm n1 k] at BT
          have H1 := Lib.hid R3
          clear R R1 R2 R3 e
          obtain ⟨W, hW⟩ : ∃ W, W = wr.alloc (.cells #[] 2) := ⟨_, rfl⟩
          have hbW : Below wr.heap.size wr W := by rw [hW]; exact (Below.refl _ _).alloc (Nat.le_refl _) _
          have ho : W.ownsRow wr.heap.size 2 1 (.slice (some ⟨wr.heap.size, 0, none⟩) 0 0) 0 (([] : List Int).map I) := by rw [hW]; exact own_empty wr 2
          have H2 := Lib.hid (bel_trans H1.out hbW)
          have HO := Lib.hid ho
          have HS : Hid (wr.heap.size ≤ W.heap.size ∧ w.heap.size ≤ wr.heap.size) := Lib.hid ⟨hbW.size, H1.out.size⟩
          have HW := Lib.hid hW
          clear hW hbW ho H1
          go_wp2_with (first
            | (at_builtin; rw [← HW.out]; refine app_i rfl (.tmp 66) (.tmp 67) rfl wr.heap.size _ 0 [] rfl HO.out A1 n1 c1 ys rfl Y.out.1 Y.out.2.2 (Y.out.2.1.later H2.out) (by omega) HS.out.1 ?_; intro v2 w2 ho2 hg2 _; have H3 := Lib.hid (bel_grown H2.out HO.out HS.out.2 hg2); have HO2 := Lib.hid ho2; have HS2 : Hid (wr.heap.size ≤ w2.heap.size) := Lib.hid (Nat.le_trans HS.out.1 hg2.size); clear ho2 hg2 HO H2)
            | (at_builtin; refine app_i rfl (.tmp 68) (.tmp 69) rfl wr.heap.size _ _ _ rfl HO2.out (some ⟨g, o, none⟩) k c0 xs rfl X.out.1 X.out.2.2 (X.out.2.1.later H3.out) (by omega) HS2.out ?_; intro v3 w3 ho3 hg3 _; have H4 := Lib.hid (bel_grown H3.out HO2.out HS.out.2 hg3); have HO3 := Lib.hid ho3; clear ho3 hg3 HO2 H3))
          have ho3 := HO3.out
          obtain ⟨A3, c3, rfl, hc3, _⟩ := own_len ho3
          rw [List.nil_append] at ho3
          rw [Nat.zero_add] at hc3 ho3 ⊢
          have hlen : (ys ++ xs).length = n1 + k := by rw [List.length_append, X.out.1, Y.out.1]
          refine (vfor (c := c3) (ys ++ xs) hlen (by omega) (lies_own ho3)).mono ?_
          rintro e w4 ⟨B, d, rfl, hv, hb4⟩
          have H5 := Lib.hid (And.intro hv (bel_trans H4.out hb4))
          have HL := Lib.hid hlen
          clear hv hb4 H4 HO3 ho3 hlen
          go_wp2_with fail
          have K := cfor (d := d) qn (ys ++ xs) HL.out (by omega) H5.out.1
          rw [Nat.add_comm n1 k] at K
          generalize cho qn (ys ++ xs) = m at K BT
          obtain ⟨t1, t2, t3⟩ := BT.out
          rw [t1] at K
          have HK := Lib.hid K
          clear K BT t1
          rw [Nat.add_comm n1 k]
          refine HK.out.mono ?_
          rintro e w5 ⟨rfl, hb5⟩
          have H6 := Lib.hid (bel_trans H5.out.2 hb5)
          clear hb5 H5 HK
          go_wp2
          go_ret
          exact ⟨by simp, H6.out⟩
  · obtain ⟨N, hN⟩ : ∃ N, N = IntKind.i64.wrap ((n0 : Int) + (n1 : Int)) := ⟨_, rfl⟩
    have hN1 : 100 < N ∨ N < 0 := by rw [hN, IntKind.wrap_i64]; unfold maxLen at l2 l4; omega
    have hw := hN.symm
    clear hN
    have q3 : 100 < N ∨ (N ≤ 100 ∧ qn < 1) ∨ (N ≤ 100 ∧ 1 ≤ qn ∧ N < qn) := by omega
    clear hN1
    rcases q3 with q2 | ⟨q2, q3⟩ | ⟨q2, q3, q4⟩
    all_goals
      go_wp2_with fail
      refine (alive_any w).mono ?_
      rintro e w1 ⟨rfl, hb1⟩
      have H1 := Lib.hid hb1
      clear hb1
      go_wp2_with fail
      refine (alive_any _).mono ?_
      rintro e w2 ⟨rfl, hb2⟩
      have H2 := Lib.hid (bel_trans H1.out hb2)
      clear hb2 H1
      go_wp2
      go_ret
      exact ⟨rfl, H2.out⟩
end Go.Proofs.Ytcmmhgalnfleoaa
