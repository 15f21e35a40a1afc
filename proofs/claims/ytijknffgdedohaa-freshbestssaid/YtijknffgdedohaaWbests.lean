/- FreshBests' walk. -/
import Derived.Test.YtijknffgdedohaaAlive
import Derived.Test.YtijknffgdedohaaRef
import Derived.Test.YtijknffgdedohaaOpen
import Derived.Test.YtijknffgdedohaaWnone
import Derived.BigQuiet
import Derived.Deep.RegionHeld3
namespace Go.Proofs.Ytijknffgdedohaa
open Go.RowKit

theorem Nums.drew {w W : World} {g : Nat} {a b c : Int} (h : Nums w g a b c W) : Nums w g a b c W.drew := ⟨h.blk, below_drew h.bel⟩
theorem Nums.set {w W : World} {g k j : Nat} {a b c : Int} (h : Nums w g a b c W) (hk : g ≠ k) (h1 : w.heap.size ≤ k) (v : Value) : Nums w g a b c (W.setCell ⟨k, j, none⟩ v) :=
  ⟨(Below.heap_setCell _ _ _ _ (by exact hk)).trans h.blk, h.bel.setCell (p := ⟨k, j, none⟩) h1 v⟩
theorem less_one {j n : Nat} (h : j < n) : n - (intOf (.int .i64 ((j : Int) + 1))).toNat < n - (intOf (.int .i64 (j : Int))).toNat := by
  simp [intOf]; omega
/-- A sample is stored into a new block. -/
theorem stored4 {W W' : World} {b : Nat} {q x : Sm} (i1 : W.heap[b]? = some (.cells q.arr 28 (0, 0)))
    (hW : W' = (((W.setCell ⟨b, 0, none⟩ (.int .i64 x.o)).setCell ⟨b, 1, none⟩ (.int .i64 x.d)).setCell ⟨b, 2, none⟩ (.int .i64 x.t)).setCell ⟨b, 3, none⟩ (.int .i64 x.s)) :
    W'.heap[b]? = some (.cells x.arr 28 (0, 0)) ∧ Only2 b b W W' := by
  have s1 := heap_setCell_same W b 0 (.int .i64 x.o) _ _ _ i1
  have s2 := heap_setCell_same _ b 1 (.int .i64 x.d) _ _ _ s1
  have s3 := heap_setCell_same _ b 2 (.int .i64 x.t) _ _ _ s2
  have s4 := heap_setCell_same _ b 3 (.int .i64 x.s) _ _ _ s3
  have t1 := Only2.one b b (.inl rfl) W 0 (.int .i64 x.o)
  have t2 := t1.trans (Only2.one b b (.inl rfl) _ 1 (.int .i64 x.d))
  have t3 := t2.trans (Only2.one b b (.inl rfl) _ 2 (.int .i64 x.t))
  have t4 := t3.trans (Only2.one b b (.inl rfl) _ 3 (.int .i64 x.s))
  rw [← hW] at t4 s4
  exact ⟨s4, t4⟩

set_option maxRecDepth 100000 in
set_option maxHeartbeats 16000000 in
theorem walk_bests (A : Option Addr) (len cap : Nat) (a b c : Int) (w : World) (hz : ActsIn w A len cap) (a1 : -9223372036854775808 ≤ a) (a2 : a ≤ 9223372036854775807) (c1 : -9223372036854775808 ≤ c) (c2 : c ≤ 9223372036854775807) :
    Calls Try.prog 3 #[.slice A len cap, .agg #[.int .i64 a, .int .i64 b, .int .i64 c]] w fun e w' => e = .returned (.bool true) ∧ Below w.heap.size w w' := by
  obtain ⟨l1, l2, l, hl, hin, hsm, _⟩ := hz
  have m1 : cap ≤ 9223372036854775807 := by unfold maxLen at l2; omega
  have Z := Lib.hid (And.intro hl (And.intro hin (And.intro hsm l2)))
  clear hl hin hsm l2
  obtain ⟨W0, hW0⟩ : ∃ W0, W0 = w.alloc (.cells #[.int .i64 a, .int .i64 b, .int .i64 c] 23) := ⟨_, rfl⟩
  have H0 : Hid (Nums w w.heap.size a b c W0) := Lib.hid ⟨by rw [hW0]; exact heap_alloc_new w _, by rw [hW0]; exact bel_box _ _⟩
  have hsz : W0.heap.size = w.heap.size + 1 := by rw [hW0]; simp
  go_enter Try.func3, Try.ntmps3
  go_wp2_with fail
  rw [← hW0]
  clear hW0
  refine (snew_any W0).mono ?_
  rintro e w1 ⟨rfl, hs1, hb1, _⟩
  obtain ⟨sb, hsb⟩ : ∃ sb, sb = W0.heap.size + 1 := ⟨_, rfl⟩
  rw [← hsb] at hs1 ⊢
  have H1 := Lib.hid (And.intro hs1 (H0.out.later hb1))
  clear hs1 hb1 hsb H0
  go_wp2_with fail
  refine (alive_any _).mono ?_
  rintro e w2 ⟨rfl, hb2⟩
  have H2 := Lib.hid (And.intro (H1.out.1.below hb2) (H1.out.2.later hb2))
  clear hb2 H1
  by_cases q1 : 100 < len
  · go_wp2_with fail
    refine (alive_any _).mono ?_
    rintro e w3 ⟨rfl, hb3⟩
    have L3 := Lib.hid (H2.out.2.later hb3)
    clear hb3 H2
    go_wp2
    go_ret
    exact ⟨rfl, L3.out.bel⟩
  have q2 : len ≤ 100 := by omega
  clear q1
  go_wp2_with fail
  go_loopw [32] (fun v32 wr => ∃ (i : Nat), i ≤ len ∧ v32 = .int .i64 (i : Int) ∧ Hid (St wr W0.heap.size sb i (last8 (l.take i)) ∧ Nums w w.heap.size a b c wr)) (fun s _ => len - (intOf s).toNat)
  case atStart => exact ⟨0, Nat.zero_le _, rfl, Lib.hid H2.out⟩
  case round =>
    clear H2
    obtain ⟨i, hi, rfl, R⟩ := hrel
    by_cases hil : i < len
    · obtain ⟨p, hp⟩ : ∃ p, l[i]? = some p := ⟨_, List.getElem?_eq_getElem (by have := Z.out.1; omega)⟩
      obtain ⟨g, o, rfl, _⟩ := Z.out.2.2.1 i p hp
      obtain ⟨y0, y1, y2, y3⟩ := (Z.out.2.2.1.later R.out.2.bel).at4 hp
      obtain ⟨W, hW⟩ : ∃ W, W = wr.alloc (.cells p.arr 28) := ⟨_, rfl⟩
      have hbW : Below wr.heap.size wr W := by rw [hW]; exact bel_box _ _
      have S0 := Lib.hid (And.intro (R.out.1.below hbW) (R.out.2.later hbW))
      clear hbW R
      go_wp2_with fail
      rw [← hW]
      clear hW y0 y1 y2 y3
      refine (sadd_any p.o p.d p.t p.s S0.out.1 (by omega)).mono ?_
      rintro e w4 ⟨rfl, hs4, hb4⟩
      rw [push8_last, ← take_snoc hp] at hs4
      have S4 := Lib.hid (And.intro hs4 (S0.out.2.below hb4 (by omega) (by omega)))
      clear hs4 hb4 S0
      have hL8 : ∀ p ∈ last8 (l.take (i + 1)), p.In := fun p hp => Z.out.2.1 p (List.mem_of_mem_take (mem_last8 hp))
      have BB := best_any (some ⟨sb, 0, none⟩) a b c (last8 (l.take (i + 1))) w4 a1 a2 c1 c2 hL8 (.inr ⟨_, _, _, rfl, S4.out.1⟩)
      have hlt : (l.take (i + 1)).length = i + 1 := by rw [List.length_take]; have := Z.out.1; omega
      have RB : ∀ W, Below w.heap.size w W → Calls Try.prog 13 #[.slice (some ⟨g, o, none⟩) (i + 1) cap, .int .i64 a, .int .i64 b, .int .i64 c] W fun e w' => e = .returned (.tuple #[(bestSm (bestOf a b (last8 (l.take (i + 1))))).val, .int .i64 (bestNow (bestOf a b (last8 (l.take (i + 1)))) c), .bool (bestOf a b (last8 (l.take (i + 1)))).isSome]) ∧ Below W.heap.size W w' := fun W hW => by
        have := rbest_any (some ⟨g, o, none⟩) cap (l.take (i + 1)) a b c W (by omega) Z.out.2.2.2 ((Z.out.2.2.1.later hW).take _) (fun p hp => Z.out.2.1 p (List.mem_of_mem_take hp)) a1 a2 c1 c2
        rwa [hlt] at this
      have RL : ∀ W, Below w.heap.size w W → Calls Try.prog 15 #[.slice (some ⟨g, o, none⟩) (i + 1) cap] W fun e w' => (∃ A' cap', e = .returned (.slice A' (last8 (l.take (i + 1))).length cap') ∧ (last8 (l.take (i + 1))).length ≤ cap' ∧ cap' ≤ maxLen ∧ Sms w A' (last8 (l.take (i + 1)))) ∧ W = w' := fun W _ => by
        have := rlast_any (some ⟨g, o, none⟩) cap (l.take (i + 1)) w W (by omega) Z.out.2.2.2 (Z.out.2.2.1.take _)
        rwa [hlt] at this
      obtain ⟨y, hy⟩ : ∃ y, y = bestSm (bestOf a b (last8 (l.take (i + 1)))) := ⟨_, rfl⟩
      obtain ⟨off, hoff⟩ : ∃ off, off = bestNow (bestOf a b (last8 (l.take (i + 1)))) c := ⟨_, rfl⟩
      obtain ⟨ok, hok⟩ : ∃ ok, ok = (bestOf a b (last8 (l.take (i + 1)))).isSome := ⟨_, rfl⟩
      rw [← hy, ← hoff, ← hok] at BB
      simp only [← hy, ← hoff, ← hok] at RB
      obtain ⟨n, hn⟩ : ∃ n, n = (last8 (l.take (i + 1))).length := ⟨_, rfl⟩
      simp only [← hn] at RL
      have hn8 : n ≤ 8 := by rw [hn, length_last8]; omega
      have K := Lib.hid (And.intro BB (And.intro RB (And.intro RL hn)))
      obtain ⟨k0, k1, k2⟩ := S4.out.2.cells
      clear BB RB RL hy hoff hok hL8 hlt hn
      have t3 : (i : Int) + 1 ≤ (cap : Int) := by omega
      have t6 : (i : Int) + 1 ≤ (len : Int) := by omega
      have t7 : (0 : Int) ≤ (i : Int) + 1 := by omega
      have t8 : ¬ cap = 0 := by omega
      have t9 : ((i : Int) + 1).toNat = i + 1 := by omega
      have t10 : i + 1 ≤ cap := by omega
      have t11 : IntKind.i64.wrap ((i : Int) + 1) = (i : Int) + 1 := by rw [IntKind.wrap_i64]; omega
      have t12 : wrap64 ((i : Int) + 1) = (i : Int) + 1 := IntWalk.wrap64_in _ ⟨by omega, by omega⟩
      go_wp2_with fail
      refine K.out.1.mono ?_
      rintro e w5 ⟨rfl, hb5⟩
      obtain ⟨W5, hW5⟩ : ∃ W5, W5 = w5.alloc (.cells #[.int .i64 y.o, .int .i64 y.d, .int .i64 y.t, .int .i64 y.s] 28) := ⟨_, rfl⟩
      have hB5 : Below w4.heap.size w4 W5 := by rw [hW5]; exact bel_trans hb5 (bel_box _ _)
      have gA : W5.heap[w5.heap.size]? = some (.cells y.arr 28 (0, 0)) := by rw [hW5]; exact heap_alloc_new w5 _
      obtain ⟨ab, hab⟩ : ∃ ab, ab = w5.heap.size := ⟨_, rfl⟩
      rw [← hab] at gA
      have S5 := Lib.hid (And.intro (S4.out.1.below hB5) (And.intro (S4.out.2.later hB5) gA))
      clear hb5 hB5 gA k0 k1 k2 S4
      go_wp2_with fail
      rw [← hW5, ← hab]
      clear hW5 hab
      have N5 := Lib.hid S5.out.2.1
      have N0 := Lib.hid N5.out.drew
      have hlw : w.heap.size < W5.heap.size := heap_lt S5.out.2.1.blk
      have KR := Lib.hid K.out.2.1
      go_region_held3 (fun w' => w'.cell? ⟨w.heap.size, 0, none⟩ = some (.int .i64 a) ∧ w'.cell? ⟨w.heap.size, 1, none⟩ = some (.int .i64 b) ∧ w'.cell? ⟨w.heap.size, 2, none⟩ = some (.int .i64 c))
        (first | with_reducible exact N0.out.cells | with_reducible exact (N5.out.later (bel_box _ _)).drew.cells | with_reducible exact M1.out.cells | with_reducible exact (M1.out.later (bel_box _ _)).cells | with_reducible exact (((((M1.out.set (by omega) (by omega) _).set (by omega) (by omega) _).set (by omega) (by omega) _).set (by omega) (by omega) _)).cells | with_reducible exact ((((((M1.out.later (bel_box _ _)).set (by omega) (by omega) _).set (by omega) (by omega) _).set (by omega) (by omega) _).set (by omega) (by omega) _)).cells)
        (first
          | (go_at_call 13; refine (KR.out _ (N5.out.later (bel_box _ _)).drew.bel).mono ?_; rintro e z1 ⟨rfl, hb6⟩; have M1 := Lib.hid ((N5.out.later (bel_box _ _)).drew.later hb6); have hz1 : w.heap.size < z1.heap.size := heap_lt M1.out.blk; have HB6 := Lib.hid hb6; have GB := Lib.hid ((hb6.block W5.heap.size (by simp)).trans (heap_alloc_new W5 _)); obtain ⟨⟨v0, v1, v2, v3⟩, ⟨e0, e1, e2, e3⟩⟩ := cells4 (p := Sm.zero) GB.out; clear hb6)
          | (go_at_call 13; refine (KR.out _ N0.out.bel).mono ?_; rintro e z1 ⟨rfl, hb6⟩; have M1 := Lib.hid (N0.out.later hb6); have hz1 : w.heap.size < z1.heap.size := heap_lt M1.out.blk; have HB6 := Lib.hid hb6; clear hb6))
      · -- FIRST
        have hB6 : Below W5.heap.size W5 (z1.alloc (.cells #[.int .i64 y.o, .int .i64 y.d, .int .i64 y.t, .int .i64 y.s] 28)) := bel_trans (w := W5) ⟨HB6.out.os, HB6.out.tape, HB6.out.output, HB6.out.size, HB6.out.block⟩ (bel_box _ _)
        have gB : (z1.alloc (.cells #[.int .i64 y.o, .int .i64 y.d, .int .i64 y.t, .int .i64 y.s] 28)).heap[z1.heap.size]? = some (.cells y.arr 28 (0, 0)) := heap_alloc_new z1 _

        have S6 := Lib.hid (And.intro (S5.out.1.below hB6) (And.intro (S5.out.2.1.later hB6) (And.intro ((hB6.block _ (heap_lt S5.out.2.2)).trans S5.out.2.2) gB)))
        obtain ⟨W6, hW6⟩ : ∃ W6, W6 = z1.alloc (.cells #[.int .i64 y.o, .int .i64 y.d, .int .i64 y.t, .int .i64 y.s] 28) := ⟨_, rfl⟩
        obtain ⟨bb, hbb⟩ : ∃ bb, bb = z1.heap.size := ⟨_, rfl⟩
        rw [← hW6, ← hbb] at S6
        go_wp2_with fail
        rw [← hW6, ← hbb]
        clear hW6 hbb
        clear hB6 gB M1 N5 N0 HB6 hz1 S5 KR
        have N6 := Lib.hid S6.out.2.1.drew
        have KA : Hid (Calls Try.prog 14 #[.pointer (some ⟨sb, 0, none⟩)] W6.drew fun e w' => e = .returned (.slice (some ⟨W6.heap.size, 0, none⟩) n n) ∧ Sms w' (some ⟨W6.heap.size, 0, none⟩) (last8 (l.take (i + 1))) ∧ Below W6.heap.size W6 w') := by
          have := sall_any (S6.out.1.below (below_drew (Below.refl _ _)))
          rw [← K.out.2.2.2] at this
          exact Lib.hid (this.mono fun e w' h => ⟨h.1, h.2.2.1, ⟨h.2.2.2.os, h.2.2.2.tape, h.2.2.2.output, h.2.2.2.size, h.2.2.2.block⟩⟩)
        have KL := Lib.hid K.out.2.2.1
        go_region_held3 (fun w' => w'.cell? ⟨w.heap.size, 0, none⟩ = some (.int .i64 a) ∧ w'.cell? ⟨w.heap.size, 1, none⟩ = some (.int .i64 b) ∧ w'.cell? ⟨w.heap.size, 2, none⟩ = some (.int .i64 c))
          (first | with_reducible exact N6.out.cells | with_reducible exact M2.out.cells)
          (first
            | (go_at_call 14; refine KA.out.mono ?_; rintro e z2 ⟨rfl, hm2, hb2⟩; have M2 := Lib.hid (S6.out.2.1.later hb2); have HA := Lib.hid (And.intro hm2 hb2); clear hm2 hb2)
            | (go_at_call 15; refine (KL.out _ N6.out.bel).mono ?_; rintro e z3 ⟨⟨A', cap', rfl, hc1, hc2, hS⟩, rfl⟩; have HD := Lib.hid (And.intro hS hc2); clear hS hc2)
            | (go_at_call 15; refine (KL.out _ M2.out.bel).mono ?_; rintro e z3 ⟨⟨A', cap', rfl, hc1, hc2, hS⟩, rfl⟩; have HD := Lib.hid (And.intro hS hc2); clear hS hc2))
        all_goals (
          have m2 : cap' ≤ 9223372036854775807 := by have := HD.out.2; unfold maxLen at this; omega
          obtain ⟨⟨x0, x1, x2, x3⟩, _⟩ := cells4 ((HA.out.2.block _ (heap_lt S6.out.2.2.1)).trans S6.out.2.2.1)
          obtain ⟨⟨y0, y1, y2, y3⟩, _⟩ := cells4 ((HA.out.2.block _ (heap_lt S6.out.2.2.2)).trans S6.out.2.2.2)
          have S7 := Lib.hid (And.intro (S6.out.1.below HA.out.2) (S6.out.2.1.later HA.out.2))
          obtain ⟨H, hH⟩ : ∃ H, H = W6.heap.size := ⟨_, rfl⟩
          rw [← hH] at HA
          go_wp2_with fail
          rw [← hH]
          clear x0 x1 x2 x3 y0 y1 y2 y3 hH
          go_loopw [97] (fun v97 wk => ∃ (j : Nat), j ≤ n ∧ v97 = .int .i64 (j : Int) ∧ Hid (Below z2.heap.size z2 wk)) (fun s _ => n - (intOf s).toNat)
          case atStart => exact ⟨0, Nat.zero_le _, rfl, Lib.hid (Below.refl _ _)⟩
          case round =>
            obtain ⟨j, hj, rfl, RK⟩ := hrel
            by_cases hjn : j < n
            · obtain ⟨q, hq⟩ : ∃ q, (last8 (l.take (i + 1)))[j]? = some q := ⟨_, List.getElem?_eq_getElem (by have := K.out.2.2.2; omega)⟩
              obtain ⟨u0, u1, u2, u3⟩ := (HA.out.1.later RK.out).at4 hq
              obtain ⟨gd, od, rfl, _⟩ := HD.out.1 j q hq
              obtain ⟨v0, v1, v2, v3⟩ := (HD.out.1.later (bel_trans S7.out.2.bel RK.out)).at4 hq
              rw [Nat.zero_add] at u0 u1 u2 u3
              have b1 : (j : Int) < (n : Nat) := by omega
              have b2 : (0 : Int) ≤ (j : Int) := by omega
              clear hq
              go_wp2_with fail
              go_quiet (fail)
              go_wp2
              exact ⟨⟨j + 1, hjn, rfl, Lib.hid (below_drewN RK.out _)⟩, less_one hjn⟩
            · have hjN : j = n := by omega
              subst hjN
              go_wp2
              exact ⟨⟨i + 1, hil, rfl, Lib.hid ⟨S7.out.1.below RK.out, S7.out.2.later RK.out⟩⟩, less_one hil⟩)
      · -- SECOND
        obtain ⟨gB, hO⟩ := stored4 (x := y) (q := Sm.zero) GB.out rfl
        have hB6 : Below W5.heap.size W5 ((((z1.setCell ⟨W5.heap.size, 0, none⟩ (.int .i64 y.o)).setCell ⟨W5.heap.size, 1, none⟩ (.int .i64 y.d)).setCell ⟨W5.heap.size, 2, none⟩ (.int .i64 y.t)).setCell ⟨W5.heap.size, 3, none⟩ (.int .i64 y.s)) := by
          have h0 : Below W5.heap.size W5 z1 := bel_trans (bel_box W5 (.cells Sm.zero.arr 28)) (show Below (W5.alloc (.cells Sm.zero.arr 28)).heap.size (W5.alloc (.cells Sm.zero.arr 28)) z1 from ⟨HB6.out.os, HB6.out.tape, HB6.out.output, HB6.out.size, HB6.out.block⟩)
          exact ⟨hO.os.trans h0.os, hO.tape.trans h0.tape, hO.output.trans h0.output, by rw [hO.size]; exact h0.size, fun k hk => (hO.same k (by omega) (by omega)).trans (h0.block k hk)⟩
        clear hO GB v0 v1 v2 v3 e0 e1 e2 e3

        have S6 := Lib.hid (And.intro (S5.out.1.below hB6) (And.intro (S5.out.2.1.later hB6) (And.intro ((hB6.block _ (heap_lt S5.out.2.2)).trans S5.out.2.2) gB)))
        obtain ⟨W6, hW6⟩ : ∃ W6, W6 = (((z1.setCell ⟨W5.heap.size, 0, none⟩ (.int .i64 y.o)).setCell ⟨W5.heap.size, 1, none⟩ (.int .i64 y.d)).setCell ⟨W5.heap.size, 2, none⟩ (.int .i64 y.t)).setCell ⟨W5.heap.size, 3, none⟩ (.int .i64 y.s) := ⟨_, rfl⟩
        obtain ⟨bb, hbb⟩ : ∃ bb, bb = W5.heap.size := ⟨_, rfl⟩
        rw [← hW6, ← hbb] at S6
        go_wp2_with fail
        rw [← hW6, ← hbb]
        clear hW6 hbb
        clear hB6 gB M1 N5 N0 HB6 hz1 S5 KR
        have N6 := Lib.hid S6.out.2.1.drew
        have KA : Hid (Calls Try.prog 14 #[.pointer (some ⟨sb, 0, none⟩)] W6.drew fun e w' => e = .returned (.slice (some ⟨W6.heap.size, 0, none⟩) n n) ∧ Sms w' (some ⟨W6.heap.size, 0, none⟩) (last8 (l.take (i + 1))) ∧ Below W6.heap.size W6 w') := by
          have := sall_any (S6.out.1.below (below_drew (Below.refl _ _)))
          rw [← K.out.2.2.2] at this
          exact Lib.hid (this.mono fun e w' h => ⟨h.1, h.2.2.1, ⟨h.2.2.2.os, h.2.2.2.tape, h.2.2.2.output, h.2.2.2.size, h.2.2.2.block⟩⟩)
        have KL := Lib.hid K.out.2.2.1
        go_region_held3 (fun w' => w'.cell? ⟨w.heap.size, 0, none⟩ = some (.int .i64 a) ∧ w'.cell? ⟨w.heap.size, 1, none⟩ = some (.int .i64 b) ∧ w'.cell? ⟨w.heap.size, 2, none⟩ = some (.int .i64 c))
          (first | with_reducible exact N6.out.cells | with_reducible exact M2.out.cells)
          (first
            | (go_at_call 14; refine KA.out.mono ?_; rintro e z2 ⟨rfl, hm2, hb2⟩; have M2 := Lib.hid (S6.out.2.1.later hb2); have HA := Lib.hid (And.intro hm2 hb2); clear hm2 hb2)
            | (go_at_call 15; refine (KL.out _ N6.out.bel).mono ?_; rintro e z3 ⟨⟨A', cap', rfl, hc1, hc2, hS⟩, rfl⟩; have HD := Lib.hid (And.intro hS hc2); clear hS hc2)
            | (go_at_call 15; refine (KL.out _ M2.out.bel).mono ?_; rintro e z3 ⟨⟨A', cap', rfl, hc1, hc2, hS⟩, rfl⟩; have HD := Lib.hid (And.intro hS hc2); clear hS hc2))
        all_goals (
          have m2 : cap' ≤ 9223372036854775807 := by have := HD.out.2; unfold maxLen at this; omega
          obtain ⟨⟨x0, x1, x2, x3⟩, _⟩ := cells4 ((HA.out.2.block _ (heap_lt S6.out.2.2.1)).trans S6.out.2.2.1)
          obtain ⟨⟨y0, y1, y2, y3⟩, _⟩ := cells4 ((HA.out.2.block _ (heap_lt S6.out.2.2.2)).trans S6.out.2.2.2)
          have S7 := Lib.hid (And.intro (S6.out.1.below HA.out.2) (S6.out.2.1.later HA.out.2))
          obtain ⟨H, hH⟩ : ∃ H, H = W6.heap.size := ⟨_, rfl⟩
          rw [← hH] at HA
          go_wp2_with fail
          rw [← hH]
          clear x0 x1 x2 x3 y0 y1 y2 y3 hH
          go_loopw [97] (fun v97 wk => ∃ (j : Nat), j ≤ n ∧ v97 = .int .i64 (j : Int) ∧ Hid (Below z2.heap.size z2 wk)) (fun s _ => n - (intOf s).toNat)
          case atStart => exact ⟨0, Nat.zero_le _, rfl, Lib.hid (Below.refl _ _)⟩
          case round =>
            obtain ⟨j, hj, rfl, RK⟩ := hrel
            by_cases hjn : j < n
            · obtain ⟨q, hq⟩ : ∃ q, (last8 (l.take (i + 1)))[j]? = some q := ⟨_, List.getElem?_eq_getElem (by have := K.out.2.2.2; omega)⟩
              obtain ⟨u0, u1, u2, u3⟩ := (HA.out.1.later RK.out).at4 hq
              obtain ⟨gd, od, rfl, _⟩ := HD.out.1 j q hq
              obtain ⟨v0, v1, v2, v3⟩ := (HD.out.1.later (bel_trans S7.out.2.bel RK.out)).at4 hq
              rw [Nat.zero_add] at u0 u1 u2 u3
              have b1 : (j : Int) < (n : Nat) := by omega
              have b2 : (0 : Int) ≤ (j : Int) := by omega
              clear hq
              go_wp2_with fail
              go_quiet (fail)
              go_wp2
              exact ⟨⟨j + 1, hjn, rfl, Lib.hid (below_drewN RK.out _)⟩, less_one hjn⟩
            · have hjN : j = n := by omega
              subst hjN
              go_wp2
              exact ⟨⟨i + 1, hil, rfl, Lib.hid ⟨S7.out.1.below RK.out, S7.out.2.later RK.out⟩⟩, less_one hil⟩)
    · go_wp2
      go_ret
      exact ⟨rfl, R.out.2.bel⟩
end Go.Proofs.Ytijknffgdedohaa
