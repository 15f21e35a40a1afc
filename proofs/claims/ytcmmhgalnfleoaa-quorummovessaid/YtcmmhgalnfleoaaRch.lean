/- The document's Choose. -/
import Derived.Test.YtcmmhgalnfleoaaOff
import Derived.Test.YtcmmhgalnfleoaaRmds
namespace Go.Proofs.Ytcmmhgalnfleoaa
open Go.RowKit

theorem info_rv : (Try.prog.info? 33).map (fun i => (i.zero, i.size, i.bytes)) = some (some (.agg #[.int .i64 0, .int .i64 0, .int .i64 0, .int .i64 0, .int .i64 0, .int .i64 0]), 6, 48) := by kernel_rfl

set_option maxRecDepth 100000 in
set_option maxHeartbeats 4000000 in
theorem rchoose_any {w : World} {A : Option Addr} {c : Nat} (q : Int) (vs : List Vt) (hb : vs.length ≤ 1000) (h : Vts w A vs) :
    Calls Try.prog 12 #[.int .i64 q, .slice A vs.length c] w fun e w' => e = .returned (.tuple #[.int .i64 (cho q (vs.map Vt.o)), .int .i64 (choE q vs.length)]) ∧ Below w.heap.size w w' := by
  obtain ⟨n, hn⟩ : ∃ n, n = vs.length := ⟨_, rfl⟩
  have hl : (vs.map Vt.o).length = n := by rw [List.length_map, hn]
  by_cases q1 : q < 1
  · obtain ⟨e1, e2⟩ := cho_low (vs.map Vt.o) q1
    rw [hl] at e2
    rw [← hn, e1, e2]
    clear hn h hb hl e1 e2
    go_enter Try.func12, Try.ntmps12
    go_wp2
    go_ret2
    exact ⟨rfl, Below.refl _ _⟩
  · by_cases q2 : (n : Int) < q
    · obtain ⟨e1, e2⟩ := cho_few q1 (by rw [hl]; exact q2)
      rw [hl] at e2
      rw [← hn, e1, e2]
      clear hn h hb hl e1 e2
      go_enter Try.func12, Try.ntmps12
      go_wp2
      go_ret2
      exact ⟨rfl, Below.refl _ _⟩
    · obtain ⟨e1, e2⟩ := cho_ok q1 (by rw [hl]; exact q2)
      rw [hl] at e2
      rw [← hn, e1, e2]
      have h0 : 0 < n := by omega
      have hn1 : n ≤ 1000 := by omega
      have HL := Lib.hid (And.intro hl (And.intro h hn))
      obtain ⟨m, hm⟩ : ∃ m, m = mid (vs.map Vt.o) := ⟨_, rfl⟩
      rw [← hm]
      have HM := Lib.hid hm
      clear hn h hb hl e1 e2 hm
      go_enter Try.func12, Try.ntmps12
      go_wp2
      go_loopw [6, 7] (fun v6 v7 wr => ∃ k : Nat, k ≤ n ∧ v7 = .int .i64 (k : Int) ∧ Hid (wr.ownsRow w.heap.size 2 1 v6 k (((vs.map Vt.o).take k).map I) ∧ Below w.heap.size w wr)) (fun _ s _ => n - (intOf s).toNat)
      case atStart => exact ⟨0, by omega, rfl, Lib.hid ⟨World.ownsRow_nil _ _ _ _, Below.refl _ _⟩⟩
      case round =>
        obtain ⟨k, hk, rfl, R⟩ := hrel
        by_cases hlt : k < n
        · obtain ⟨x, hx⟩ : ∃ x, vs[k]? = some x := ⟨vs[k]'(by have := HL.out.2.2; omega), List.getElem?_eq_getElem _⟩
          obtain ⟨g, o, rfl, hg, c0, c1, c2, c3, c4, c5⟩ := (HL.out.2.1.later R.out.2).at6 hx
          have e := take_snoc (l := vs.map Vt.o) (i := k) (z := x.o) (by rw [List.getElem?_map, hx]; rfl)
          have HX := Lib.hid e
          obtain ⟨A3, c3', rfl, _, _⟩ := own_len R.out.1
          clear hx e hg c0 c1 c2 c3 c4
          go_wp2_with (at_builtin; go_loud (refine app_i rfl (.tmp 22) (.tmp 28) rfl w.heap.size (.slice A3 k c3') k _ rfl (own_below R.out.1 ((Below.refl _ _).alloc (Nat.le_refl _) _) (Nat.le_refl _)) (some ⟨wr.heap.size, 0, none⟩) 1 1 [x.o] rfl rfl (fun h => by cases h) (lies_new wr [I x.o] 2) (by omega) (by have := R.out.2.size; simp; omega) ?_); intro v2 w2 ho1 hg1 hat1; have H2 := Lib.hid (And.intro ho1 (bel_grown6 (R.out.2.alloc R.out.2.size _) (own_below R.out.1 ((Below.refl _ _).alloc (Nat.le_refl _) _) (Nat.le_refl _)) (Nat.le_refl _) hg1)); clear ho1 hg1 hat1)
          refine ⟨⟨k + 1, by omega, by go_num, Lib.hid ⟨?_, H2.out.2⟩⟩, ?_⟩
          · rw [HX.out]; exact H2.out.1
          · simp [intOf]; omega
        · obtain rfl : k = n := by omega
          have e : (vs.map Vt.o).take k = vs.map Vt.o := List.take_of_length_le (by have := HL.out.1; omega)
          obtain ⟨R1, R2⟩ := R.out
          rw [e] at R1
          obtain ⟨A3, c3', rfl, _, _⟩ := own_len R1
          have K := rof_any (w := wr) (Ad := A3) (c := c3') (vs.map Vt.o) (by rw [HL.out.1]; exact h0) (by rw [HL.out.1]; omega) (lies_own R1)
          rw [HL.out.1, ← HM.out] at K
          have H1 := Lib.hid (And.intro R2 K)
          clear R1 R2 K e
          go_wp2_with fail
          refine H1.out.2.mono ?_
          rintro e w2 ⟨rfl, hb2⟩
          have H2 := Lib.hid (bel_trans H1.out.1 hb2)
          clear hb2 H1
          go_wp2
          go_ret2
          exact ⟨rfl, H2.out⟩
end Go.Proofs.Ytcmmhgalnfleoaa
