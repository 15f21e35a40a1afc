/- QuorumChooses' walk. -/
import Derived.Test.YtcmmhgalnfleoaaOpen
namespace Go.Proofs.Ytcmmhgalnfleoaa
open Go.RowKit

/-- The law's votes of offsets that lie somewhere. -/
theorem vfor {w : World} {A : Option Addr} {c n : Nat} (xs : List Int) (hn : xs.length = n) (hb : n ≤ 1000) (h : Lies w A (xs.map I)) :
    Calls Try.prog 11 #[.slice A n c] w fun e w' => ∃ B d, e = .returned (.slice B n d) ∧ Vts w' B (mkv 0 xs) ∧ Below w.heap.size w w' := by
  subst hn
  refine (votes_any (c := c) xs hb h).mono ?_
  rintro e w' ⟨v, rfl, ho, hb⟩
  obtain ⟨B, d, rfl, _, _⟩ := own_len ho
  exact ⟨B, d, rfl, lies_own6 ho, hb⟩
theorem cfor {w : World} {B : Option Addr} {d n : Nat} (q : Int) (xs : List Int) (hn : xs.length = n) (hb : n ≤ 1000) (h : Vts w B (mkv 0 xs)) :
    Calls Try.prog 10 #[.int .i64 q, .slice B n d] w fun e w' => e = .returned (.tuple #[.int .i64 (cho q xs), .int .i64 (choE q n)]) ∧ Below w.heap.size w w' := by
  have := choose_any (w := w) (A := B) (c := d) q (mkv 0 xs) (by rw [length_mkv]; omega) h
  rw [mkv_o, length_mkv, hn] at this
  exact this
theorem rcfor {w : World} {B : Option Addr} {d n : Nat} (q : Int) (xs : List Int) (hn : xs.length = n) (hb : n ≤ 1000) (h : Vts w B (mkv 0 xs)) :
    Calls Try.prog 12 #[.int .i64 q, .slice B n d] w fun e w' => e = .returned (.tuple #[.int .i64 (cho q xs), .int .i64 (choE q n)]) ∧ Below w.heap.size w w' := by
  have := rchoose_any (w := w) (A := B) (c := d) q (mkv 0 xs) (by rw [length_mkv]; omega) h
  rw [mkv_o, length_mkv, hn] at this
  exact this

set_option maxRecDepth 100000 in
set_option maxHeartbeats 4000000 in
theorem walk_chooses (q : Int) (A1 : Option Addr) (n1 c1 : Nat) (w : World) (hz1 : IntsIn .i64 w A1 n1 c1) :
    Calls Try.prog 3 #[.int .i64 q, .slice A1 n1 c1] w fun e w' => e = .returned (.bool true) ∧ Below w.heap.size w w' := by
  obtain ⟨l1, l2, xs, hl, hwx, hx, hn⟩ := hz1
  obtain ⟨i0, hi0, hz0, hz1, hz2⟩ := info_parts info_rv
  have m1 : c1 ≤ 9223372036854775807 := by unfold maxLen at l2; omega
  have X := Lib.hid (And.intro hl hx)
  clear hl hwx hx hn l2
  go_enter Try.func3, Try.ntmps3
  go_wp2_with fail
  refine (alive_any w).mono ?_
  rintro e w1 ⟨rfl, hb1⟩
  have H1 := Lib.hid hb1
  clear hb1
  by_cases q1 : 300 < n1
  · go_wp2_with fail
    refine (alive_any _).mono ?_
    rintro e w2 ⟨rfl, hb2⟩
    have H2 := Lib.hid (bel_trans H1.out hb2)
    clear hb2 H1
    go_wp2
    go_ret
    exact ⟨rfl, H2.out⟩
  · go_wp2_with fail
    refine (vfor xs X.out.1 (by omega) (X.out.2.later H1.out)).mono ?_
    rintro e w2 ⟨B, d, rfl, hv, hb2⟩
    have H2 := Lib.hid (And.intro hv (bel_trans H1.out hb2))
    clear hv hb2 H1
    go_wp2_with fail
    have K := cfor (d := d) q xs X.out.1 (by omega) H2.out.1
    have HR := Lib.hid (fun (w : World) B d hv => rcfor (w := w) (B := B) (d := d) q xs X.out.1 (by omega) hv)
    generalize cho q xs = x at K HR
    generalize choE q n1 = y at K HR
    refine K.mono ?_
    rintro e w3 ⟨rfl, hb3⟩
    have H3 := Lib.hid (bel_trans H2.out.2 hb3)
    clear hb3 H2 K
    go_wp2
    go_loopw [7, 29] (fun v7 v29 wr => ∃ k : Nat, k ≤ n1 ∧ v29 = .int .i64 (k : Int) ∧ Hid (wr.ownsRow w.heap.size 33 6 v7 k (vflat (mkv 0 (xs.take k))) ∧ Below w.heap.size w wr)) (fun _ s _ => n1 - (intOf s).toNat)
    case atStart => exact ⟨0, by omega, rfl, Lib.hid ⟨World.ownsRow_nil _ _ _ _, H3.out⟩⟩
    case round =>
      clear H3
      obtain ⟨k, hk, rfl, R⟩ := hrel
      by_cases hlt : k < n1
      · obtain ⟨x1, hx1⟩ : ∃ x, xs[k]? = some x := ⟨xs[k]'(by have := X.out.1; omega), List.getElem?_eq_getElem _⟩
        obtain ⟨g, o, rfl, c0⟩ := (X.out.2.later R.out.2).cell (k := k) (v := .int .i64 x1) (by rw [List.getElem?_map, hx1]; rfl)
        have e := mkv_snoc (xs.take k) 0 x1
        rw [List.length_take_of_le (by have := X.out.1; omega), Nat.zero_add, ← take_snoc hx1] at e
        have HX := Lib.hid e
        obtain ⟨A3, c3, rfl, _, _⟩ := own_len R.out.1
        clear hx1 e
        go_wp2_with (at_builtin; go_loud (refine wpList_append_lies _ rfl (.tmp 34) (.tmp 38) 29 rfl w.heap.size 33 i0 (.agg #[.int .i64 0, .int .i64 0, .int .i64 0, .int .i64 0, .int .i64 0, .int .i64 0]) 6 48 Try.underlying29 hi0 hz0 hz1 hz2 rfl (by decide) (.slice A3 k c3) k _ rfl (own_below R.out.1 ((Below.refl _ _).alloc (Nat.le_refl _) _) (Nat.le_refl _)) ⟨wr.heap.size, 0, none⟩ 1 1 (Vt.mk k Sm.zero x1).cells rfl rfl (World.news_of_block (cs := (Vt.mk k Sm.zero x1).cells.toArray) (heap_alloc_new _ _)) (vflat_one' _) (by decide) (by unfold maxLen; omega) (by omega) (by have := R.out.2.size; simp; omega) _ rfl ?_); intro p1 cp1 w2 ho1 hg1 hat1 _; have H2 := Lib.hid (And.intro ho1 (bel_grown6 (R.out.2.alloc R.out.2.size _) (own_below R.out.1 ((Below.refl _ _).alloc (Nat.le_refl _) _) (Nat.le_refl _)) (Nat.le_refl _) hg1)); clear ho1 hg1 hat1)
        refine ⟨⟨k + 1, by omega, by go_num, Lib.hid ⟨?_, H2.out.2⟩⟩, ?_⟩
        · rw [HX.out, vflat_append, vflat_one]; exact H2.out.1
        · simp [intOf]; omega
      · obtain rfl : k = n1 := by omega
        have e : xs.take k = xs := List.take_of_length_le (by have := X.out.1; omega)
        obtain ⟨R1, R2⟩ := R.out
        rw [e] at R1
        obtain ⟨A3, c3, rfl, _, _⟩ := own_len R1
        have H4 := Lib.hid (And.intro (HR.out wr A3 c3 (lies_own6 R1)) R2)
        clear R1 R2 R e
        go_wp2_with fail
        refine H4.out.1.mono ?_
        rintro e w4 ⟨rfl, hb4⟩
        have H5 := Lib.hid (bel_trans H4.out.2 hb4)
        clear hb4 H4
        go_wp2
        go_ret
        exact ⟨by simp, H5.out⟩
end Go.Proofs.Ytcmmhgalnfleoaa
