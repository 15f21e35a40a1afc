/- FreshMoves' walk. -/
import Derived.Test.YtijknffgdedohaaAlive
import Derived.Test.YtijknffgdedohaaRef
import Derived.Test.YtijknffgdedohaaOpen
import Derived.Test.YtijknffgdedohaaWnone
namespace Go.Proofs.Ytijknffgdedohaa
open Go.RowKit

/-- Three numbers of 32 bits in a block of their own. -/
structure Lives (w : World) (g : Nat) (a b c : Int) (W : World) : Prop where
  blk : W.heap[g]? = some (.cells #[.int .u32 a, .int .u32 b, .int .u32 c] 42 (0, 0))
  bel : Below w.heap.size w W
section
variable {w W W' : World} {g : Nat} {a b c : Int}
theorem Lives.below {B : Nat} (h : Lives w g a b c W) (hb : Below B W W') (h1 : g < B) (h2 : w.heap.size ≤ B) : Lives w g a b c W' := ⟨(hb.block g h1).trans h.blk, h.bel.trans (hb.mono h2)⟩
theorem Lives.later (h : Lives w g a b c W) (hb : Below W.heap.size W W') : Lives w g a b c W' := h.below hb (heap_lt h.blk) h.bel.size
theorem Lives.cells (h : Lives w g a b c W) : W.cell? ⟨g, 0, none⟩ = some (.int .u32 a) ∧ W.cell? ⟨g, 1, none⟩ = some (.int .u32 b) ∧ W.cell? ⟨g, 2, none⟩ = some (.int .u32 c) := by
  refine ⟨?_, ?_, ?_⟩
  all_goals (rw [cell_of_row _ _ _ _ _ _ h.blk]; rfl)
end

/-- A sample cut to numbers that are small. -/
def red (p : Sm) : Sm := ⟨p.o.tmod 1152921504606846976, p.d, p.t.tmod 1152921504606846976, p.s.tmod 1152921504606846976⟩
theorem tmod_bd (x : Int) : -1152921504606846976 < x.tmod 1152921504606846976 ∧ x.tmod 1152921504606846976 < 1152921504606846976 := by
  have h1 := Int.tmod_lt_of_pos x (b := 1152921504606846976) (by decide)
  have h2 := Int.lt_tmod_of_pos x (b := 1152921504606846976) (by decide)
  omega
theorem red_in {p : Sm} (h : p.In) : (red p).In ∧ -1152921504606846976 < (red p).o ∧ (red p).o < 1152921504606846976 ∧ -1152921504606846976 < (red p).s ∧ (red p).s < 1152921504606846976 := by
  have ho := tmod_bd p.o
  have ht := tmod_bd p.t
  have hs := tmod_bd p.s
  refine ⟨⟨?_, ?_, h.d1, h.d2, ?_, ?_, ?_, ?_⟩, ho.1, ho.2, hs.1, hs.2⟩
  all_goals (simp only [red]; omega)
theorem fresh_longer {h a m : Int} {p : Sm} (hm : m ≤ a) (hf : isFresh h m p = true) : isFresh h a p = true := by
  unfold isFresh freshOf at *
  simp only [Bool.and_eq_true, decide_eq_true_eq] at *
  omega
/-- Of a shorter life no better one. -/
theorem shorter {L : List Sm} {h a m : Int} (hm : m ≤ a) {z : Sm} (hz : bestOf h m L = some z) : ∃ y, bestOf h a L = some y ∧ y.d ≤ z.d := by
  obtain ⟨m1, m2, _⟩ := best_some hz
  have hf := fresh_longer hm m2
  cases e : bestOf h a L with
  | none =>
    have := best_none e z m1
    rw [hf] at this
    cases this
  | some y =>
    refine ⟨y, rfl, ?_⟩
    have := (best_some e).2.2 z m1 hf
    rw [better_not] at this
    omega

set_option maxRecDepth 100000 in
set_option maxHeartbeats 8000000 in
theorem walk_moves (A : Option Addr) (len cap : Nat) (h a b c : Int) (w : World) (hz : ActsIn w A len cap) (h1 : -2147483648 ≤ h) (h2 : h ≤ 2147483647) (a1 : 0 ≤ a) (a2 : a ≤ 4294967295) (b1 : 0 ≤ b) (b2 : b ≤ 4294967295) :
    Calls Try.prog 6 #[.slice A len cap, .int .i32 h, .agg #[.int .u32 a, .int .u32 b, .int .u32 c]] w fun e w' => e = .returned (.bool true) ∧ Below w.heap.size w w' := by
  obtain ⟨l1, l2, l, hl, hin, hsm, _⟩ := hz
  have m1 : cap ≤ 9223372036854775807 := by unfold maxLen at l2; omega
  have Z := Lib.hid (And.intro hl (And.intro hin (And.intro hsm l2)))
  clear hl hin hsm l2
  obtain ⟨W0, hW0⟩ : ∃ W0, W0 = w.alloc (.cells #[.int .u32 a, .int .u32 b, .int .u32 c] 42) := ⟨_, rfl⟩
  have H0 : Hid (Lives w w.heap.size a b c W0) := Lib.hid ⟨by rw [hW0]; exact heap_alloc_new w _, by rw [hW0]; exact bel_box _ _⟩
  have hsz : W0.heap.size = w.heap.size + 1 := by rw [hW0]; simp
  go_enter Try.func6, Try.ntmps6
  go_wp2_with fail
  rw [← hW0]
  clear hW0
  refine (snew_any W0).mono ?_
  rintro e w1 ⟨rfl, hs1, hb1, _⟩
  obtain ⟨sb, hsb⟩ : ∃ sb, sb = W0.heap.size + 1 := ⟨_, rfl⟩
  rw [← hsb] at hs1 ⊢
  have H1 := Lib.hid (And.intro hs1 (H0.out.later hb1))
  clear hs1 hb1 hsb H0
  go_wp2_with fail
  refine (alive_any _).mono ?_
  rintro e w2 ⟨rfl, hb2⟩
  have H2 := Lib.hid (And.intro (H1.out.1.below hb2) (H1.out.2.later hb2))
  clear hb2 H1
  by_cases q1 : 50 < len
  · go_wp2_with fail
    refine (alive_any _).mono ?_
    rintro e w3 ⟨rfl, hb3⟩
    have L3 := Lib.hid (H2.out.2.later hb3)
    clear hb3 H2
    go_wp2
    go_ret
    exact ⟨rfl, L3.out.bel⟩
  have q2 : len ≤ 50 := by omega
  clear q1
  go_wp2_with fail
  obtain ⟨B, hB, B1, B2⟩ : ∃ B : Int, B = wrap32 c ∧ -2147483648 ≤ B ∧ B ≤ 2147483647 := ⟨_, rfl, by unfold wrap32; omega, by unfold wrap32; omega⟩
  rw [← hB]
  clear hB
  go_loopw [38] (fun v38 wr => ∃ (i : Nat), i ≤ len ∧ v38 = .int .i64 (i : Int) ∧ Hid (St wr W0.heap.size sb i (last8 ((l.take i).map red)) ∧ Lives w w.heap.size a b c wr)) (fun s _ => len - (intOf s).toNat)
  case atStart => exact ⟨0, Nat.zero_le _, rfl, Lib.hid H2.out⟩
  case round =>
    clear H2
    obtain ⟨i, hi, rfl, R⟩ := hrel
    by_cases hil : i < len
    · obtain ⟨p, hp⟩ : ∃ p, l[i]? = some p := ⟨_, List.getElem?_eq_getElem (by have := Z.out.1; omega)⟩
      obtain ⟨g, o, rfl, _⟩ := Z.out.2.2.1 i p hp
      obtain ⟨y0, y1, y2, y3⟩ := (Z.out.2.2.1.later R.out.2.bel).at4 hp
      obtain ⟨W, hW⟩ : ∃ W, W = wr.alloc (.cells p.arr 28) := ⟨_, rfl⟩
      have hbW : Below wr.heap.size wr W := by rw [hW]; exact bel_box _ _
      have S0 := Lib.hid (And.intro (R.out.1.below hbW) (R.out.2.later hbW))
      clear hbW R
      go_wp2_with fail
      rw [← hW]
      clear hW y0 y1 y2 y3
      refine (sadd_any _ _ _ _ S0.out.1 (by omega)).mono ?_
      rintro e w5 ⟨rfl, hs5, hb5⟩
      rw [show (⟨p.o.tmod 1152921504606846976, p.d, p.t.tmod 1152921504606846976, p.s.tmod 1152921504606846976⟩ : Sm) = red p from rfl, push8_last, ← List.map_singleton (f := red), ← List.map_append, ← take_snoc hp] at hs5
      have S5 := Lib.hid (And.intro hs5 (S0.out.2.below hb5 (by omega) (by omega)))
      clear hs5 hb5 S0
      go_wp2
      refine ⟨⟨i + 1, by omega, by go_num, Lib.hid S5.out⟩, ?_⟩
      simp [intOf]; omega
    · have hiE : i = len := by omega
      subst hiE
      have eT : l.take i = l := List.take_of_length_le (by have := Z.out.1; omega)
      rw [eT] at R
      have hin : ∀ p ∈ last8 (l.map red), p.In ∧ -1152921504606846976 < p.o ∧ p.o < 1152921504606846976 ∧ -1152921504606846976 < p.s ∧ p.s < 1152921504606846976 := fun p hp => by
        obtain ⟨q, hq, rfl⟩ := List.mem_map.1 (mem_last8 hp)
        exact red_in (Z.out.2.1 q hq)
      obtain ⟨L, hL⟩ : ∃ L, L = last8 (l.map red) := ⟨_, rfl⟩
      rw [← hL] at hin R
      clear hL eT
      have BA : ∀ W, St W W0.heap.size sb i L → _ := fun W hS => best_any (some ⟨sb, 0, none⟩) h a 0 L W (by omega) (by omega) (by omega) (by omega) (fun p hp => (hin p hp).1) (.inr ⟨W0.heap.size, sb, i, rfl, hS⟩)
      have BB : ∀ W, St W W0.heap.size sb i L → _ := fun W hS => best_any (some ⟨sb, 0, none⟩) h a B L W (by omega) (by omega) (by omega) (by omega) (fun p hp => (hin p hp).1) (.inr ⟨W0.heap.size, sb, i, rfl, hS⟩)
      obtain ⟨m, hm, hma⟩ : ∃ m : Int, (if b < a then b else a) = m ∧ m ≤ a := ⟨_, rfl, by split <;> omega⟩
      have BC : ∀ W, St W W0.heap.size sb i L → _ := fun W hS => best_any (some ⟨sb, 0, none⟩) h m 0 L W (by omega) (by omega) (by omega) (by omega) (fun p hp => (hin p hp).1) (.inr ⟨W0.heap.size, sb, i, rfl, hS⟩)
      obtain ⟨y, hy⟩ : ∃ y, y = bestSm (bestOf h a L) := ⟨_, rfl⟩
      obtain ⟨off, hoff⟩ : ∃ x, x = bestNow (bestOf h a L) 0 := ⟨_, rfl⟩
      obtain ⟨off2, hoff2⟩ : ∃ x, x = bestNow (bestOf h a L) B := ⟨_, rfl⟩
      obtain ⟨ok, hok⟩ : ∃ x, x = (bestOf h a L).isSome := ⟨_, rfl⟩
      obtain ⟨z, hz⟩ : ∃ z, z = bestSm (bestOf h m L) := ⟨_, rfl⟩
      obtain ⟨off3, hoff3⟩ : ∃ x, x = bestNow (bestOf h m L) 0 := ⟨_, rfl⟩
      obtain ⟨ok3, hok3⟩ : ∃ x, x = (bestOf h m L).isSome := ⟨_, rfl⟩
      have f1 : ok = true → off2 = off - B ∧ -4611686018427387904 ≤ off ∧ off ≤ 4611686018427387904 := fun e => by
        rw [hok] at e
        rw [hoff, hoff2]
        cases hA : bestOf h a L with
        | none => rw [hA] at e; cases e
        | some q =>
          obtain ⟨_, n1, n2, n3, n4⟩ := hin q (best_some hA).1
          simp only [bestNow, nowOf]
          rw [stp_in (n := 0 - q.s) (by omega) (by omega), stp_in (n := B - q.s) (by omega) (by omega), stp_in (n := q.o - (0 - q.s)) (by omega) (by omega), stp_in (n := q.o - (B - q.s)) (by omega) (by omega)]
          omega
      have f2 : ok3 = true → ok = true ∧ y.d ≤ z.d := fun e => by
        rw [hok3] at e
        rw [hok, hy, hz]
        cases hC : bestOf h m L with
        | none => rw [hC] at e; cases e
        | some q =>
          obtain ⟨q', hq', hd⟩ := shorter hma hC
          rw [hq']
          exact ⟨rfl, hd⟩
      simp only [← hy, ← hoff, ← hok] at BA
      simp only [← hy, ← hoff2, ← hok] at BB
      simp only [← hz, ← hoff3, ← hok3] at BC
      have K := Lib.hid (And.intro BA (And.intro BB (And.intro BC (And.intro f1 f2))))
      obtain ⟨k0, k1, k2⟩ := R.out.2.cells
      clear BA BB BC hin hy hoff hoff2 hok hz hoff3 hok3 f1 f2
      go_wp2_with fail
      refine (K.out.1 _ R.out.1).mono ?_
      rintro e w3 ⟨rfl, hb3⟩
      obtain ⟨W3, hW3⟩ : ∃ W3, W3 = w3.alloc (.cells #[.int .i64 y.o, .int .i64 y.d, .int .i64 y.t, .int .i64 y.s] 28) := ⟨_, rfl⟩
      have hB3 : Below wr.heap.size wr W3 := by rw [hW3]; exact bel_trans hb3 (bel_box _ _)
      have gA : W3.heap[w3.heap.size]? = some (.cells y.arr 28 (0, 0)) := by rw [hW3]; exact heap_alloc_new w3 _
      obtain ⟨ab, hab⟩ : ∃ ab, ab = w3.heap.size := ⟨_, rfl⟩
      rw [← hab] at gA
      have H3 := Lib.hid (And.intro (R.out.1.below hB3) (And.intro (R.out.2.later hB3) gA))
      clear hb3 hB3 gA k0 k1 k2 R
      obtain ⟨k0, k1, k2⟩ := H3.out.2.1.cells
      rw [hW3] at k0 k1 k2
      go_wp2_with fail
      rw [← hW3, ← hab]
      clear hW3 hab k0 k1 k2
      refine (K.out.2.1 _ H3.out.1).mono ?_
      rintro e w4 ⟨rfl, hb4⟩
      obtain ⟨W4, hW4⟩ : ∃ W4, W4 = w4.alloc (.cells #[.int .i64 y.o, .int .i64 y.d, .int .i64 y.t, .int .i64 y.s] 28) := ⟨_, rfl⟩
      have hB4 : Below W3.heap.size W3 W4 := by rw [hW4]; exact bel_trans hb4 (bel_box _ _)
      have gB : W4.heap[w4.heap.size]? = some (.cells y.arr 28 (0, 0)) := by rw [hW4]; exact heap_alloc_new w4 _
      obtain ⟨bb, hbb⟩ : ∃ bb, bb = w4.heap.size := ⟨_, rfl⟩
      rw [← hbb] at gB
      have H4 := Lib.hid (And.intro (H3.out.1.below hB4) (And.intro (H3.out.2.1.later hB4) (And.intro ((hB4.block _ (heap_lt H3.out.2.2)).trans H3.out.2.2) gB)))
      clear hb4 hB4 gB H3
      obtain ⟨k0, k1, k2⟩ := H4.out.2.1.cells
      obtain ⟨⟨x0, x1, x2, x3⟩, _⟩ := cells4 H4.out.2.2.1
      rw [hW4] at k0 k1 k2 x0 x1 x2 x3
      cases ok with
      | true =>
        obtain ⟨hd, hd1, hd2⟩ := K.out.2.2.2.1 rfl
        subst hd
        go_wp2_with fail
        rw [← hW4]
        clear hW4 hbb k0 k1 k2 x0 x1 x2 x3
        refine (K.out.2.2.1 _ H4.out.1).mono ?_
        rintro e w5 ⟨rfl, hb5⟩
        have gA := (hb5.block _ (heap_lt H4.out.2.2.1)).trans H4.out.2.2.1
        have hlt := heap_lt gA
        have a1' : ∀ O, (w5.alloc O).cell? ⟨ab, 1, none⟩ = some (.int .i64 y.d) := fun O => (World.cell?_alloc_lt _ _ _ hlt).trans (by rw [cell_of_row _ _ _ _ _ _ gA]; rfl)
        have H5 := Lib.hid (H4.out.2.1.later hb5)
        clear hb5 gA H4
        cases ok3 with
        | true =>
          obtain ⟨he, hdd⟩ := K.out.2.2.2.2 rfl
          clear he
          go_wp2
          go_ret
          exact ⟨rfl, bel_trans H5.out.bel (bel_box _ _)⟩
        | false =>
          go_wp2
          go_ret
          exact ⟨rfl, bel_trans H5.out.bel (bel_box _ _)⟩
      | false =>
        go_wp2_with fail
        rw [← hW4]
        clear hW4 hbb k0 k1 k2 x0 x1 x2 x3
        refine (K.out.2.2.1 _ H4.out.1).mono ?_
        rintro e w5 ⟨rfl, hb5⟩
        have gA := (hb5.block _ (heap_lt H4.out.2.2.1)).trans H4.out.2.2.1
        have hlt := heap_lt gA
        have a1' : ∀ O, (w5.alloc O).cell? ⟨ab, 1, none⟩ = some (.int .i64 y.d) := fun O => (World.cell?_alloc_lt _ _ _ hlt).trans (by rw [cell_of_row _ _ _ _ _ _ gA]; rfl)
        have H5 := Lib.hid (H4.out.2.1.later hb5)
        clear hb5 gA H4
        cases ok3 with
        | true =>
          obtain ⟨he, hdd⟩ := K.out.2.2.2.2 rfl
          cases he
        | false =>
          go_wp2
          go_ret
          exact ⟨rfl, bel_trans H5.out.bel (bel_box _ _)⟩
end Go.Proofs.Ytijknffgdedohaa
