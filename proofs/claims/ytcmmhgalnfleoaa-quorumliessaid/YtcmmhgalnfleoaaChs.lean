/- Choose, the law's example; the document's Choose. -/
import Derived.Test.YtcmmhgalnfleoaaOff
import Derived.Test.YtcmmhgalnfleoaaMed
import Derived.Test.YtcmmhgalnfleoaaRmds
namespace Go.Proofs.Ytcmmhgalnfleoaa
open Go.RowKit Go.Sort

theorem choose_any {w : World} {A : Option Addr} {c : Nat} (q : Int) (vs : List Vt) (hb : vs.length ≤ 1000) (h : Vts w A vs) :
    Calls Try.prog 10 #[.int .i64 q, .slice A vs.length c] w fun e w' => e = .returned (.tuple #[.int .i64 (cho q (vs.map Vt.o)), .int .i64 (choE q vs.length)]) ∧ Below w.heap.size w w' := by
  obtain ⟨n, hn⟩ : ∃ n, n = vs.length := ⟨_, rfl⟩
  have hl : (vs.map Vt.o).length = n := by rw [List.length_map, hn]
  by_cases q1 : q < 1
  · obtain ⟨e1, e2⟩ := cho_low (vs.map Vt.o) q1
    rw [hl] at e2
    rw [← hn, e1, e2]
    clear hn h hb hl e1 e2
    go_enter Try.func10, Try.ntmps10
    go_wp2
    go_ret2
    exact ⟨rfl, Below.refl _ _⟩
  · by_cases q2 : (n : Int) < q
    · obtain ⟨e1, e2⟩ := cho_few q1 (by rw [hl]; exact q2)
      rw [hl] at e2
      rw [← hn, e1, e2]
      clear hn h hb hl e1 e2
      go_enter Try.func10, Try.ntmps10
      go_wp2
      go_ret2
      exact ⟨rfl, Below.refl _ _⟩
    · obtain ⟨e1, e2⟩ := cho_ok q1 (by rw [hl]; exact q2)
      rw [hl] at e2
      rw [← hn, e1, e2]
      have K := offs_any (c := c) vs hb h
      rw [← hn] at K
      have hK := Lib.hid K
      have h0 : 0 < n := by omega
      have hn1 : n ≤ 1000 := by omega
      have HL := Lib.hid hl
      generalize vs.map Vt.o = os at hK HL ⊢
      obtain ⟨m, hm⟩ : ∃ m, m = mid os := ⟨_, rfl⟩
      rw [← hm]
      have HM := Lib.hid hm
      clear hn h hb hl e1 e2 K hm
      go_enter Try.func10, Try.ntmps10
      go_wp2_with fail
      refine hK.out.mono ?_
      rintro e w1 ⟨B, d, rfl, hli, hb1⟩
      have K := of_i (w := w1) (Ad := B) (c := d) os (by rw [HL.out]; exact h0) (by rw [HL.out]; omega) hli
      rw [show (os.mergeSort leI).getD ((os.length - 1) / 2) 0 = mid os from rfl, HL.out, ← HM.out] at K
      have H1 := Lib.hid (And.intro hb1 K)
      clear hb1 K hK hli
      go_wp2_with fail
      refine H1.out.2.mono ?_
      rintro e w2 ⟨rfl, hb2⟩
      have H2 := Lib.hid (bel_trans H1.out.1 hb2)
      clear hb2 H1
      go_wp2
      go_ret2
      exact ⟨rfl, H2.out⟩

theorem mid_591 : mid [5, 1, 9] = 5 := mid_ex
theorem al3 : cho 3 [5, 1, 9] = 5 ∧ choE 3 3 = 0 := by
  constructor
  · unfold cho; rw [if_neg (by decide), if_neg (by decide)]; exact mid_591
  · decide
theorem al4 : cho 4 [5, 1, 9] = 0 ∧ choE 4 3 = 13 := by constructor <;> decide

set_option maxHeartbeats 1000000 in
theorem alive_any (w : World) : Calls Try.prog 9 #[] w fun e w' => e = .returned (.bool true) ∧ Below w.heap.size w w' := by
  have F : Hid (∀ w0 w : World, w = w0.alloc (.cells #[.int .i64 5, .int .i64 1, .int .i64 9] 2) → Calls Try.prog 11 #[.slice (some ⟨w0.heap.size, 0, none⟩) 3 3] w fun e w' => ∃ A c, e = .returned (.slice A 3 c) ∧ Vts w' A (mkv 0 [5, 1, 9]) ∧ Below w.heap.size w w') := Lib.hid fun w0 w hw => by
    refine (votes_any (w := w) (A := some ⟨w0.heap.size, 0, none⟩) (c := 3) [5, 1, 9] (by decide) (by rw [hw]; exact lies_new w0 _ 2)).mono ?_
    rintro e w' ⟨v, rfl, ho, hb⟩
    obtain ⟨A, c, rfl, _⟩ := own_len ho
    exact ⟨A, c, rfl, lies_own6 ho, hb⟩
  have C : Hid (∀ (q : Int) (w : World) (A : Option Addr) (c : Nat), Vts w A (mkv 0 [5, 1, 9]) → Calls Try.prog 10 #[.int .i64 q, .slice A 3 c] w fun e w' => e = .returned (.tuple #[.int .i64 (cho q [5, 1, 9]), .int .i64 (choE q 3)]) ∧ Below w.heap.size w w') := Lib.hid fun q w A c h => by
    have := choose_any (w := w) (A := A) (c := c) q (mkv 0 [5, 1, 9]) (by decide) h
    rw [mkv_o] at this
    exact this
  go_enter Try.func9, Try.ntmps9
  obtain ⟨W, hW⟩ : ∃ W, W = w.alloc (.cells #[.int .i64 5, .int .i64 1, .int .i64 9] 2) := ⟨_, rfl⟩
  go_wp2_with fail
  rw [← hW]
  have HB : Hid (Below w.heap.size w W) := Lib.hid (by rw [hW]; exact bel_alloc _ _)
  refine (F.out _ _ hW).mono ?_
  rintro e w1 ⟨A, c, rfl, hv, hb1⟩
  have H1 := Lib.hid (And.intro hv (bel_trans HB.out hb1))
  clear hv hb1 hW HB
  go_wp2_with fail
  refine (C.out 3 _ _ _ H1.out.1).mono ?_
  rw [al3.1, al3.2]
  rintro e w2 ⟨rfl, hb2⟩
  obtain ⟨W2, hW2⟩ : ∃ W2, W2 = w2.alloc (.cells #[.int .i64 5, .int .i64 1, .int .i64 9] 2) := ⟨_, rfl⟩
  have H2 : Hid (Below w.heap.size w W2) := Lib.hid (by rw [hW2]; exact bel_trans (bel_trans H1.out.2 hb2) (bel_alloc _ _))
  clear hb2 H1
  go_wp2_with fail
  rw [← hW2]
  refine (F.out _ _ hW2).mono ?_
  rintro e w3 ⟨A2, c2, rfl, hv, hb3⟩
  have H3 := Lib.hid (And.intro hv (bel_trans H2.out hb3))
  clear hv hb3 hW2 H2
  go_wp2_with fail
  refine (C.out 4 _ _ _ H3.out.1).mono ?_
  rw [al4.1, al4.2]
  rintro e w4 ⟨rfl, hb4⟩
  have H4 := Lib.hid (bel_trans H3.out.2 hb4)
  clear hb4 H3
  go_wp2
  go_ret
  exact ⟨rfl, H4.out⟩
end Go.Proofs.Ytcmmhgalnfleoaa
