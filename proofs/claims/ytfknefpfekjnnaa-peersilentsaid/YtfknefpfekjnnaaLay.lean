/- The call that lays a packet's bytes. -/
import Derived.Test.YtfknefpfekjnnaaPk
namespace Go.Proofs.Ytfknefpfekjnnaa
open Go.RowKit

set_option maxHeartbeats 1000000 in
theorem lay_row (p : Pk) (w : World) (hp : p.In) (hf : p.Fits) :
    Calls Try.prog 55 #[.agg #[.int .u8 p.l, .int .u8 p.v, .int .u8 p.m, .int .u8 p.s, .int .i8 p.po, .int .i8 p.pr, .int .u32 p.de, .int .u32 p.di, .int .u32 p.rs, .int .u64 p.rf, .int .u64 p.og, .int .u64 p.rc, .int .u64 p.xm]] w (GivesRow w.heap.size p.bytes w) := by
  rw [← bytes_laid p hp hf]
  obtain ⟨i0, hi, hz0, hz1, hz2⟩ := info_parts info5
  have HI := Lib.hid (And.intro hi (And.intro hz0 (And.intro hz1 hz2)))
  clear hi hz0 hz1 hz2
  have hF := first_byte p.l p.v p.m hp.l0 hf.l hp.v0 hf.v hp.m0 hf.m
  have a1 := hp.l0; have a2 := hf.l; have a3 := hp.v0; have a4 := hf.v; have a5 := hp.m0; have a6 := hf.m; have a7 := hp.s0; have a8 := hp.s1
  have L1 := Lib.hid (show ∀ z ∈ [p.l * 64 + p.v * 8 + p.m, p.s, p.po % 256, p.pr % 256], 0 ≤ z ∧ z ≤ 18446744073709551615 by
    intro z hz
    simp only [List.mem_cons, List.not_mem_nil, or_false] at hz
    rcases hz with rfl | rfl | rfl | rfl <;> omega)
  have L2 := Lib.hid (show ∀ z ∈ [p.de, p.di, p.rs], 0 ≤ z ∧ z ≤ 18446744073709551615 by
    intro z hz
    have := hp.de0; have := hp.de1; have := hp.di0; have := hp.di1; have := hp.rs0; have := hp.rs1
    simp only [List.mem_cons, List.not_mem_nil, or_false] at hz
    rcases hz with rfl | rfl | rfl <;> omega)
  have L3 := Lib.hid (show ∀ z ∈ [p.rf, p.og, p.rc, p.xm], 0 ≤ z ∧ z ≤ 18446744073709551615 by
    intro z hz
    have := hp.rf0; have := hp.rf1; have := hp.og0; have := hp.og1; have := hp.rc0; have := hp.rc1; have := hp.xm0; have := hp.xm1
    simp only [List.mem_cons, List.not_mem_nil, or_false] at hz
    rcases hz with rfl | rfl | rfl | rfl <;> omega)
  have b1 := hp.de0; have b2 := hp.de1; have b3 := hp.di0; have b4 := hp.di1; have b5 := hp.rs0; have b6 := hp.rs1
  clear hp hf
  go_enter Try.func55, Try.ntmps55
  go_wp2_with (first | (at_make; refine wpList_make_own _ rfl (.const (.int .i64 0)) (.const (.int .i64 48)) 35 rfl (w.heap.size + 1) 5 i0 (.int .u8 0) 1 Try.underlying35 HI.out.1 HI.out.2.1 HI.out.2.2.1 .i64 .i64 48 48 rfl rfl rfl (by rw [HI.out.2.2.2]; omega) (by unfold maxLen; omega) (by simp) ?_; intro w1 hown1 hg1; have O1 := Lib.hid (show w1.ownsRow (w.heap.size + 1) 5 1 (.slice (some ⟨w.heap.size + 1, 0, none⟩) 0 48) 0 [] from (by simpa using hown1)); have hb1 := (Below.refl (w.heap.size + 1) _).grown hg1 (by simp) (by intro k hk; cases hk); have hs1 : w.heap.size + 1 ≤ w1.heap.size := (by have := hg1.size; simp at this; omega); clear hown1 hg1; have c0 : w1.cell? ⟨w.heap.size, 0, none⟩ = some (.int .u8 p.l) := box_cell hb1 0; have c1 : w1.cell? ⟨w.heap.size, 1, none⟩ = some (.int .u8 p.v) := box_cell hb1 1; have c2 : w1.cell? ⟨w.heap.size, 2, none⟩ = some (.int .u8 p.m) := box_cell hb1 2; have c3 : w1.cell? ⟨w.heap.size, 3, none⟩ = some (.int .u8 p.s) := box_cell hb1 3; have c4 : w1.cell? ⟨w.heap.size, 4, none⟩ = some (.int .i8 p.po) := box_cell hb1 4; have c5 : w1.cell? ⟨w.heap.size, 5, none⟩ = some (.int .i8 p.pr) := box_cell hb1 5; have c6 : w1.cell? ⟨w.heap.size, 6, none⟩ = some (.int .u32 p.de) := box_cell hb1 6; have c7 : w1.cell? ⟨w.heap.size, 7, none⟩ = some (.int .u32 p.di) := box_cell hb1 7; have c8 : w1.cell? ⟨w.heap.size, 8, none⟩ = some (.int .u32 p.rs) := box_cell hb1 8; have c9 : w1.cell? ⟨w.heap.size, 9, none⟩ = some (.int .u64 p.rf) := box_cell hb1 9; have c10 : w1.cell? ⟨w.heap.size, 10, none⟩ = some (.int .u64 p.og) := box_cell hb1 10; have c11 : w1.cell? ⟨w.heap.size, 11, none⟩ = some (.int .u64 p.rc) := box_cell hb1 11; have c12 : w1.cell? ⟨w.heap.size, 12, none⟩ = some (.int .u64 p.xm) := box_cell hb1 12) | fail)
  have K1 := Lib.hid (write_at (w.heap.size + 1) (.slice (some ⟨w.heap.size + 1, 0, none⟩) 0 48) [] [p.l * 64 + p.v * 8 + p.m, p.s, p.po % 256, p.pr % 256] 1 1 w1.heap.size 4 (w1.alloc (.cells #[.int .u64 (p.l * 64 + p.v * 8 + p.m), .int .u64 p.s, .int .u64 (p.po % 256), .int .u64 (p.pr % 256)] 34)) (World.ownsRow.alloc O1.out _) (by simp; omega) (row_new w1 _ _ rfl) rfl rfl (by decide) (by simp) (by decide) L1.out)
  refine K1.out.mono ?_
  rintro e w2 ⟨v2, rfl, hown2, hb2⟩
  have O2 := Lib.hid hown2
  obtain ⟨hb3, hs2⟩ := two_below hb1 hs1 hb2
  clear hown2 hb2 hb1 hs1 c0 c1 c2 c3 c4 c5 c6 c7 c8 c9 c10 c11 c12 hF
  have c0 : w2.cell? ⟨w.heap.size, 0, none⟩ = some (.int .u8 p.l) := box_cell hb3 0; have c1 : w2.cell? ⟨w.heap.size, 1, none⟩ = some (.int .u8 p.v) := box_cell hb3 1; have c2 : w2.cell? ⟨w.heap.size, 2, none⟩ = some (.int .u8 p.m) := box_cell hb3 2; have c3 : w2.cell? ⟨w.heap.size, 3, none⟩ = some (.int .u8 p.s) := box_cell hb3 3; have c4 : w2.cell? ⟨w.heap.size, 4, none⟩ = some (.int .i8 p.po) := box_cell hb3 4; have c5 : w2.cell? ⟨w.heap.size, 5, none⟩ = some (.int .i8 p.pr) := box_cell hb3 5; have c6 : w2.cell? ⟨w.heap.size, 6, none⟩ = some (.int .u32 p.de) := box_cell hb3 6; have c7 : w2.cell? ⟨w.heap.size, 7, none⟩ = some (.int .u32 p.di) := box_cell hb3 7; have c8 : w2.cell? ⟨w.heap.size, 8, none⟩ = some (.int .u32 p.rs) := box_cell hb3 8; have c9 : w2.cell? ⟨w.heap.size, 9, none⟩ = some (.int .u64 p.rf) := box_cell hb3 9; have c10 : w2.cell? ⟨w.heap.size, 10, none⟩ = some (.int .u64 p.og) := box_cell hb3 10; have c11 : w2.cell? ⟨w.heap.size, 11, none⟩ = some (.int .u64 p.rc) := box_cell hb3 11; have c12 : w2.cell? ⟨w.heap.size, 12, none⟩ = some (.int .u64 p.xm) := box_cell hb3 12
  go_wp2_with fail
  have K2 := Lib.hid (write_at (w.heap.size + 1) v2 ([] ++ [p.l * 64 + p.v * 8 + p.m, p.s, p.po % 256, p.pr % 256].flatMap (be 1)) [p.de, p.di, p.rs] 4 4 w2.heap.size 3 (w2.alloc (.cells #[.int .u64 p.de, .int .u64 p.di, .int .u64 p.rs] 34)) (World.ownsRow.alloc O2.out _) (by simp; omega) (row_new w2 _ _ rfl) rfl rfl (by decide) (by simp) (by simp [be_length]) L2.out)
  refine K2.out.mono ?_
  rintro e w3 ⟨v3, rfl, hown3, hb4⟩
  have O3 := Lib.hid hown3
  obtain ⟨hb5, hs3⟩ := two_below hb3 hs2 hb4
  clear hown3 hb4 hb3 hs2 c0 c1 c2 c3 c4 c5 c6 c7 c8 c9 c10 c11 c12
  have c0 : w3.cell? ⟨w.heap.size, 0, none⟩ = some (.int .u8 p.l) := box_cell hb5 0; have c1 : w3.cell? ⟨w.heap.size, 1, none⟩ = some (.int .u8 p.v) := box_cell hb5 1; have c2 : w3.cell? ⟨w.heap.size, 2, none⟩ = some (.int .u8 p.m) := box_cell hb5 2; have c3 : w3.cell? ⟨w.heap.size, 3, none⟩ = some (.int .u8 p.s) := box_cell hb5 3; have c4 : w3.cell? ⟨w.heap.size, 4, none⟩ = some (.int .i8 p.po) := box_cell hb5 4; have c5 : w3.cell? ⟨w.heap.size, 5, none⟩ = some (.int .i8 p.pr) := box_cell hb5 5; have c6 : w3.cell? ⟨w.heap.size, 6, none⟩ = some (.int .u32 p.de) := box_cell hb5 6; have c7 : w3.cell? ⟨w.heap.size, 7, none⟩ = some (.int .u32 p.di) := box_cell hb5 7; have c8 : w3.cell? ⟨w.heap.size, 8, none⟩ = some (.int .u32 p.rs) := box_cell hb5 8; have c9 : w3.cell? ⟨w.heap.size, 9, none⟩ = some (.int .u64 p.rf) := box_cell hb5 9; have c10 : w3.cell? ⟨w.heap.size, 10, none⟩ = some (.int .u64 p.og) := box_cell hb5 10; have c11 : w3.cell? ⟨w.heap.size, 11, none⟩ = some (.int .u64 p.rc) := box_cell hb5 11; have c12 : w3.cell? ⟨w.heap.size, 12, none⟩ = some (.int .u64 p.xm) := box_cell hb5 12
  go_wp2_with fail
  have K3 := Lib.hid (write_at (w.heap.size + 1) v3 (([] ++ [p.l * 64 + p.v * 8 + p.m, p.s, p.po % 256, p.pr % 256].flatMap (be 1)) ++ [p.de, p.di, p.rs].flatMap (be 4)) [p.rf, p.og, p.rc, p.xm] 8 8 w3.heap.size 4 (w3.alloc (.cells #[.int .u64 p.rf, .int .u64 p.og, .int .u64 p.rc, .int .u64 p.xm] 34)) (World.ownsRow.alloc O3.out _) (by simp; omega) (row_new w3 _ _ rfl) rfl rfl (by decide) (by simp) (by simp [be_length]) L3.out)
  refine K3.out.mono ?_
  rintro e w4 ⟨v4, rfl, hown4, hb6⟩
  have O4 := Lib.hid hown4
  obtain ⟨hb7, hs4⟩ := two_below hb5 hs3 hb6
  clear hown4 hb6 hb5 hs3 c0 c1 c2 c3 c4 c5 c6 c7 c8 c9 c10 c11 c12
  go_wp2
  go_ret
  exact ⟨v4, rfl, own_base O4.out (by omega), below_box hb7⟩

/-- What a call leaves that answers with 48 bytes of its own. -/
def Gives (xs : List Int) (w : World) (e : Ending) (w' : World) : Prop :=
  ∃ g c, e = .returned (.slice (some ⟨g, 0, none⟩) 48 c) ∧ w.heap.size ≤ g ∧ g < w'.heap.size ∧ 48 ≤ c ∧ c ≤ maxLen ∧ Has w' g 0 xs ∧ Below w.heap.size w w'
theorem gives_of_row {xs : List Int} {w w' : World} {e : Ending} (hl : xs.length = 48) (h : GivesRow w.heap.size xs w e w') : Gives xs w e w' := by
  obtain ⟨v, rfl, hown, hb⟩ := h
  unfold Own at hown
  rw [hl] at hown
  rcases hown.2 with ⟨_, h0⟩ | ⟨g, cap, cur, rfl, hg, hh, h1, h2, h3, h4⟩
  · omega
  · have hlt : g < w'.heap.size := by
      rcases Nat.lt_or_ge g w'.heap.size with h | h
      · exact h
      · rw [Array.getElem?_eq_none h] at hh; cases hh
    refine ⟨g, cap, rfl, hg, hlt, h1, h2, ?_, hb⟩
    intro t ht
    rw [Nat.zero_add, World.ownsRow.cellAt hown t (by omega)]
    simp [List.getD, ht]

theorem lay_any (p : Pk) (w : World) (hp : p.In) (hf : p.Fits) : Calls Try.prog 55 #[.agg #[.int .u8 p.l, .int .u8 p.v, .int .u8 p.m, .int .u8 p.s, .int .i8 p.po, .int .i8 p.pr, .int .u32 p.de, .int .u32 p.di, .int .u32 p.rs, .int .u64 p.rf, .int .u64 p.og, .int .u64 p.rc, .int .u64 p.xm]] w (Gives p.bytes w) :=
  (lay_row p w hp hf).mono fun _ _ h => gives_of_row p.bytes_length h

theorem put_at (B : Nat) (v : Value) (xs : List Int) (x nn : Int) (n : Nat) (w : World) (hown : Own w B v xs) (hB : B ≤ w.heap.size)
    (hn : n ≤ 8) (hx : xs.length ≤ 100) (en : nn = n) (hx0 : 0 ≤ x) (hx1 : x ≤ 18446744073709551615) :
    Calls Try.prog 56 #[v, .int .u64 x, .int .i64 nn] w (GivesRow B (xs ++ be n x) w) := by
  subst en; exact put_any B v xs x n w hown hB hn hx hx0 hx1

set_option maxHeartbeats 1000000 in
theorem rput_row (p : Pk) (w : World) (hp : p.In) (hf : p.Fits) :
    Calls Try.prog 34 #[.agg #[.int .u8 p.l, .int .u8 p.v, .int .u8 p.m, .int .u8 p.s, .int .i8 p.po, .int .i8 p.pr, .int .u32 p.de, .int .u32 p.di, .int .u32 p.rs, .int .u64 p.rf, .int .u64 p.og, .int .u64 p.rc, .int .u64 p.xm]] w (GivesRow w.heap.size p.bytes w) := by
  have a1 := hp.l0; have a2 := hf.l; have a3 := hp.v0; have a4 := hf.v; have a5 := hp.m0; have a6 := hf.m; have a7 := hp.s0; have a8 := hp.s1
  have hpde0 := hp.de0; have b2 := hp.de1; have hpdi0 := hp.di0; have b4 := hp.di1; have hprs0 := hp.rs0; have b6 := hp.rs1
  have hprf0 := hp.rf0; have b8 := hp.rf1; have hpog0 := hp.og0; have d0 := hp.og1; have hprc0 := hp.rc0; have d2 := hp.rc1; have hpxm0 := hp.xm0; have d4 := hp.xm1
  clear hp hf
  obtain ⟨W0, eW⟩ : ∃ W0, W0 = (w.alloc (.cells #[.int .u8 p.l, .int .u8 p.v, .int .u8 p.m, .int .u8 p.s, .int .i8 p.po, .int .i8 p.pr, .int .u32 p.de, .int .u32 p.di, .int .u32 p.rs, .int .u64 p.rf, .int .u64 p.og, .int .u64 p.rc, .int .u64 p.xm] 57)).alloc (.cells #[.int .u8 (64 * p.l + 8 * p.v + p.m), .int .u8 p.s, .int .u8 (p.po % 256), .int .u8 (p.pr % 256)] 5) := ⟨_, rfl⟩
  have O0 := Lib.hid (show Own W0 (w.heap.size + 1) (.slice (some ⟨w.heap.size + 1, 0, none⟩) 4 4) [64 * p.l + 8 * p.v + p.m, p.s, p.po % 256, p.pr % 256] by
    rw [eW]
    have := World.ownsRow_lit (base := w.heap.size + 1) (e := 5) (size := 1) (w.alloc (.cells #[.int .u8 p.l, .int .u8 p.v, .int .u8 p.m, .int .u8 p.s, .int .i8 p.po, .int .i8 p.pr, .int .u32 p.de, .int .u32 p.di, .int .u32 p.rs, .int .u64 p.rf, .int .u64 p.og, .int .u64 p.rc, .int .u64 p.xm] 57)) #[.int .u8 (64 * p.l + 8 * p.v + p.m), .int .u8 p.s, .int .u8 (p.po % 256), .int .u8 (p.pr % 256)] 4 (by simp) (by unfold maxLen; omega) rfl
    unfold Own
    simpa using this)
  have hb0 : Below (w.heap.size + 1) (w.alloc (.cells #[.int .u8 p.l, .int .u8 p.v, .int .u8 p.m, .int .u8 p.s, .int .i8 p.po, .int .i8 p.pr, .int .u32 p.de, .int .u32 p.di, .int .u32 p.rs, .int .u64 p.rf, .int .u64 p.og, .int .u64 p.rc, .int .u64 p.xm] 57)) W0 := by rw [eW]; exact (Below.refl _ _).alloc (by simp) _
  have hs0 : w.heap.size + 1 ≤ W0.heap.size := by rw [eW]; simp
  have EW := Lib.hid eW
  clear eW
  go_enter Try.func34, Try.ntmps34
  go_wp2_with fail
  rw [← EW.out]
  have K1 := Lib.hid (put_at (w.heap.size + 1) (.slice (some ⟨w.heap.size + 1, 0, none⟩) 4 4) ([64 * p.l + 8 * p.v + p.m, p.s, p.po % 256, p.pr % 256]) p.de 4 4 W0 O0.out hs0 (by decide) (by simp) rfl hpde0 (by omega))
  refine K1.out.mono ?_
  clear K1
  rintro e w1 ⟨v1, rfl, hown, hbn⟩
  have O1 := Lib.hid hown
  have hb1 := hb0.trans hbn
  have hs1 : w.heap.size + 1 ≤ w1.heap.size := Nat.le_trans hs0 hbn.size
  clear hown hbn hb0
  have c0 : w1.cell? ⟨w.heap.size, 0, none⟩ = some (.int .u8 p.l) := box_cell hb1 0; have c1 : w1.cell? ⟨w.heap.size, 1, none⟩ = some (.int .u8 p.v) := box_cell hb1 1; have c2 : w1.cell? ⟨w.heap.size, 2, none⟩ = some (.int .u8 p.m) := box_cell hb1 2; have c3 : w1.cell? ⟨w.heap.size, 3, none⟩ = some (.int .u8 p.s) := box_cell hb1 3; have c4 : w1.cell? ⟨w.heap.size, 4, none⟩ = some (.int .i8 p.po) := box_cell hb1 4; have c5 : w1.cell? ⟨w.heap.size, 5, none⟩ = some (.int .i8 p.pr) := box_cell hb1 5; have c6 : w1.cell? ⟨w.heap.size, 6, none⟩ = some (.int .u32 p.de) := box_cell hb1 6; have c7 : w1.cell? ⟨w.heap.size, 7, none⟩ = some (.int .u32 p.di) := box_cell hb1 7; have c8 : w1.cell? ⟨w.heap.size, 8, none⟩ = some (.int .u32 p.rs) := box_cell hb1 8; have c9 : w1.cell? ⟨w.heap.size, 9, none⟩ = some (.int .u64 p.rf) := box_cell hb1 9; have c10 : w1.cell? ⟨w.heap.size, 10, none⟩ = some (.int .u64 p.og) := box_cell hb1 10; have c11 : w1.cell? ⟨w.heap.size, 11, none⟩ = some (.int .u64 p.rc) := box_cell hb1 11; have c12 : w1.cell? ⟨w.heap.size, 12, none⟩ = some (.int .u64 p.xm) := box_cell hb1 12
  have K2 := Lib.hid (put_at (w.heap.size + 1) v1 ([64 * p.l + 8 * p.v + p.m, p.s, p.po % 256, p.pr % 256] ++ be 4 p.de) p.di 4 4 w1 O1.out hs1 (by decide) (by simp [be_length]) rfl hpdi0 (by omega))
  go_wp2_with fail
  refine K2.out.mono ?_
  clear K2
  rintro e w2 ⟨v2, rfl, hown, hbn⟩
  have O2 := Lib.hid hown
  have hb2 := hb1.trans hbn
  have hs2 : w.heap.size + 1 ≤ w2.heap.size := Nat.le_trans hs1 hbn.size
  clear hown hbn hb1
  have c0 : w2.cell? ⟨w.heap.size, 0, none⟩ = some (.int .u8 p.l) := box_cell hb2 0; have c1 : w2.cell? ⟨w.heap.size, 1, none⟩ = some (.int .u8 p.v) := box_cell hb2 1; have c2 : w2.cell? ⟨w.heap.size, 2, none⟩ = some (.int .u8 p.m) := box_cell hb2 2; have c3 : w2.cell? ⟨w.heap.size, 3, none⟩ = some (.int .u8 p.s) := box_cell hb2 3; have c4 : w2.cell? ⟨w.heap.size, 4, none⟩ = some (.int .i8 p.po) := box_cell hb2 4; have c5 : w2.cell? ⟨w.heap.size, 5, none⟩ = some (.int .i8 p.pr) := box_cell hb2 5; have c6 : w2.cell? ⟨w.heap.size, 6, none⟩ = some (.int .u32 p.de) := box_cell hb2 6; have c7 : w2.cell? ⟨w.heap.size, 7, none⟩ = some (.int .u32 p.di) := box_cell hb2 7; have c8 : w2.cell? ⟨w.heap.size, 8, none⟩ = some (.int .u32 p.rs) := box_cell hb2 8; have c9 : w2.cell? ⟨w.heap.size, 9, none⟩ = some (.int .u64 p.rf) := box_cell hb2 9; have c10 : w2.cell? ⟨w.heap.size, 10, none⟩ = some (.int .u64 p.og) := box_cell hb2 10; have c11 : w2.cell? ⟨w.heap.size, 11, none⟩ = some (.int .u64 p.rc) := box_cell hb2 11; have c12 : w2.cell? ⟨w.heap.size, 12, none⟩ = some (.int .u64 p.xm) := box_cell hb2 12
  have K3 := Lib.hid (put_at (w.heap.size + 1) v2 (([64 * p.l + 8 * p.v + p.m, p.s, p.po % 256, p.pr % 256] ++ be 4 p.de ++ be 4 p.di)) p.rs 4 4 w2 O2.out hs2 (by decide) (by simp [be_length]) rfl hprs0 (by omega))
  go_wp2_with fail
  refine K3.out.mono ?_
  clear K3
  rintro e w3 ⟨v3, rfl, hown, hbn⟩
  have O3 := Lib.hid hown
  have hb3 := hb2.trans hbn
  have hs3 : w.heap.size + 1 ≤ w3.heap.size := Nat.le_trans hs2 hbn.size
  clear hown hbn hb2
  have c0 : w3.cell? ⟨w.heap.size, 0, none⟩ = some (.int .u8 p.l) := box_cell hb3 0; have c1 : w3.cell? ⟨w.heap.size, 1, none⟩ = some (.int .u8 p.v) := box_cell hb3 1; have c2 : w3.cell? ⟨w.heap.size, 2, none⟩ = some (.int .u8 p.m) := box_cell hb3 2; have c3 : w3.cell? ⟨w.heap.size, 3, none⟩ = some (.int .u8 p.s) := box_cell hb3 3; have c4 : w3.cell? ⟨w.heap.size, 4, none⟩ = some (.int .i8 p.po) := box_cell hb3 4; have c5 : w3.cell? ⟨w.heap.size, 5, none⟩ = some (.int .i8 p.pr) := box_cell hb3 5; have c6 : w3.cell? ⟨w.heap.size, 6, none⟩ = some (.int .u32 p.de) := box_cell hb3 6; have c7 : w3.cell? ⟨w.heap.size, 7, none⟩ = some (.int .u32 p.di) := box_cell hb3 7; have c8 : w3.cell? ⟨w.heap.size, 8, none⟩ = some (.int .u32 p.rs) := box_cell hb3 8; have c9 : w3.cell? ⟨w.heap.size, 9, none⟩ = some (.int .u64 p.rf) := box_cell hb3 9; have c10 : w3.cell? ⟨w.heap.size, 10, none⟩ = some (.int .u64 p.og) := box_cell hb3 10; have c11 : w3.cell? ⟨w.heap.size, 11, none⟩ = some (.int .u64 p.rc) := box_cell hb3 11; have c12 : w3.cell? ⟨w.heap.size, 12, none⟩ = some (.int .u64 p.xm) := box_cell hb3 12
  have K4 := Lib.hid (put_at (w.heap.size + 1) v3 ((([64 * p.l + 8 * p.v + p.m, p.s, p.po % 256, p.pr % 256] ++ be 4 p.de ++ be 4 p.di) ++ be 4 p.rs)) p.rf 8 8 w3 O3.out hs3 (by decide) (by simp [be_length]) rfl hprf0 (by omega))
  go_wp2_with fail
  refine K4.out.mono ?_
  clear K4
  rintro e w4 ⟨v4, rfl, hown, hbn⟩
  have O4 := Lib.hid hown
  have hb4 := hb3.trans hbn
  have hs4 : w.heap.size + 1 ≤ w4.heap.size := Nat.le_trans hs3 hbn.size
  clear hown hbn hb3
  have c0 : w4.cell? ⟨w.heap.size, 0, none⟩ = some (.int .u8 p.l) := box_cell hb4 0; have c1 : w4.cell? ⟨w.heap.size, 1, none⟩ = some (.int .u8 p.v) := box_cell hb4 1; have c2 : w4.cell? ⟨w.heap.size, 2, none⟩ = some (.int .u8 p.m) := box_cell hb4 2; have c3 : w4.cell? ⟨w.heap.size, 3, none⟩ = some (.int .u8 p.s) := box_cell hb4 3; have c4 : w4.cell? ⟨w.heap.size, 4, none⟩ = some (.int .i8 p.po) := box_cell hb4 4; have c5 : w4.cell? ⟨w.heap.size, 5, none⟩ = some (.int .i8 p.pr) := box_cell hb4 5; have c6 : w4.cell? ⟨w.heap.size, 6, none⟩ = some (.int .u32 p.de) := box_cell hb4 6; have c7 : w4.cell? ⟨w.heap.size, 7, none⟩ = some (.int .u32 p.di) := box_cell hb4 7; have c8 : w4.cell? ⟨w.heap.size, 8, none⟩ = some (.int .u32 p.rs) := box_cell hb4 8; have c9 : w4.cell? ⟨w.heap.size, 9, none⟩ = some (.int .u64 p.rf) := box_cell hb4 9; have c10 : w4.cell? ⟨w.heap.size, 10, none⟩ = some (.int .u64 p.og) := box_cell hb4 10; have c11 : w4.cell? ⟨w.heap.size, 11, none⟩ = some (.int .u64 p.rc) := box_cell hb4 11; have c12 : w4.cell? ⟨w.heap.size, 12, none⟩ = some (.int .u64 p.xm) := box_cell hb4 12
  have K5 := Lib.hid (put_at (w.heap.size + 1) v4 (((([64 * p.l + 8 * p.v + p.m, p.s, p.po % 256, p.pr % 256] ++ be 4 p.de ++ be 4 p.di) ++ be 4 p.rs) ++ be 8 p.rf)) p.og 8 8 w4 O4.out hs4 (by decide) (by simp [be_length]) rfl hpog0 (by omega))
  go_wp2_with fail
  refine K5.out.mono ?_
  clear K5
  rintro e w5 ⟨v5, rfl, hown, hbn⟩
  have O5 := Lib.hid hown
  have hb5 := hb4.trans hbn
  have hs5 : w.heap.size + 1 ≤ w5.heap.size := Nat.le_trans hs4 hbn.size
  clear hown hbn hb4
  have c0 : w5.cell? ⟨w.heap.size, 0, none⟩ = some (.int .u8 p.l) := box_cell hb5 0; have c1 : w5.cell? ⟨w.heap.size, 1, none⟩ = some (.int .u8 p.v) := box_cell hb5 1; have c2 : w5.cell? ⟨w.heap.size, 2, none⟩ = some (.int .u8 p.m) := box_cell hb5 2; have c3 : w5.cell? ⟨w.heap.size, 3, none⟩ = some (.int .u8 p.s) := box_cell hb5 3; have c4 : w5.cell? ⟨w.heap.size, 4, none⟩ = some (.int .i8 p.po) := box_cell hb5 4; have c5 : w5.cell? ⟨w.heap.size, 5, none⟩ = some (.int .i8 p.pr) := box_cell hb5 5; have c6 : w5.cell? ⟨w.heap.size, 6, none⟩ = some (.int .u32 p.de) := box_cell hb5 6; have c7 : w5.cell? ⟨w.heap.size, 7, none⟩ = some (.int .u32 p.di) := box_cell hb5 7; have c8 : w5.cell? ⟨w.heap.size, 8, none⟩ = some (.int .u32 p.rs) := box_cell hb5 8; have c9 : w5.cell? ⟨w.heap.size, 9, none⟩ = some (.int .u64 p.rf) := box_cell hb5 9; have c10 : w5.cell? ⟨w.heap.size, 10, none⟩ = some (.int .u64 p.og) := box_cell hb5 10; have c11 : w5.cell? ⟨w.heap.size, 11, none⟩ = some (.int .u64 p.rc) := box_cell hb5 11; have c12 : w5.cell? ⟨w.heap.size, 12, none⟩ = some (.int .u64 p.xm) := box_cell hb5 12
  have K6 := Lib.hid (put_at (w.heap.size + 1) v5 ((((([64 * p.l + 8 * p.v + p.m, p.s, p.po % 256, p.pr % 256] ++ be 4 p.de ++ be 4 p.di) ++ be 4 p.rs) ++ be 8 p.rf) ++ be 8 p.og)) p.rc 8 8 w5 O5.out hs5 (by decide) (by simp [be_length]) rfl hprc0 (by omega))
  go_wp2_with fail
  refine K6.out.mono ?_
  clear K6
  rintro e w6 ⟨v6, rfl, hown, hbn⟩
  have O6 := Lib.hid hown
  have hb6 := hb5.trans hbn
  have hs6 : w.heap.size + 1 ≤ w6.heap.size := Nat.le_trans hs5 hbn.size
  clear hown hbn hb5
  have c0 : w6.cell? ⟨w.heap.size, 0, none⟩ = some (.int .u8 p.l) := box_cell hb6 0; have c1 : w6.cell? ⟨w.heap.size, 1, none⟩ = some (.int .u8 p.v) := box_cell hb6 1; have c2 : w6.cell? ⟨w.heap.size, 2, none⟩ = some (.int .u8 p.m) := box_cell hb6 2; have c3 : w6.cell? ⟨w.heap.size, 3, none⟩ = some (.int .u8 p.s) := box_cell hb6 3; have c4 : w6.cell? ⟨w.heap.size, 4, none⟩ = some (.int .i8 p.po) := box_cell hb6 4; have c5 : w6.cell? ⟨w.heap.size, 5, none⟩ = some (.int .i8 p.pr) := box_cell hb6 5; have c6 : w6.cell? ⟨w.heap.size, 6, none⟩ = some (.int .u32 p.de) := box_cell hb6 6; have c7 : w6.cell? ⟨w.heap.size, 7, none⟩ = some (.int .u32 p.di) := box_cell hb6 7; have c8 : w6.cell? ⟨w.heap.size, 8, none⟩ = some (.int .u32 p.rs) := box_cell hb6 8; have c9 : w6.cell? ⟨w.heap.size, 9, none⟩ = some (.int .u64 p.rf) := box_cell hb6 9; have c10 : w6.cell? ⟨w.heap.size, 10, none⟩ = some (.int .u64 p.og) := box_cell hb6 10; have c11 : w6.cell? ⟨w.heap.size, 11, none⟩ = some (.int .u64 p.rc) := box_cell hb6 11; have c12 : w6.cell? ⟨w.heap.size, 12, none⟩ = some (.int .u64 p.xm) := box_cell hb6 12
  have K7 := Lib.hid (put_at (w.heap.size + 1) v6 (((((([64 * p.l + 8 * p.v + p.m, p.s, p.po % 256, p.pr % 256] ++ be 4 p.de ++ be 4 p.di) ++ be 4 p.rs) ++ be 8 p.rf) ++ be 8 p.og) ++ be 8 p.rc)) p.xm 8 8 w6 O6.out hs6 (by decide) (by simp [be_length]) rfl hpxm0 (by omega))
  go_wp2_with fail
  refine K7.out.mono ?_
  clear K7
  rintro e w7 ⟨v7, rfl, hown, hbn⟩
  have O7 := Lib.hid hown
  have hb7 := hb6.trans hbn
  have hs7 : w.heap.size + 1 ≤ w7.heap.size := Nat.le_trans hs6 hbn.size
  clear hown hbn hb6
  have c0 : w7.cell? ⟨w.heap.size, 0, none⟩ = some (.int .u8 p.l) := box_cell hb7 0; have c1 : w7.cell? ⟨w.heap.size, 1, none⟩ = some (.int .u8 p.v) := box_cell hb7 1; have c2 : w7.cell? ⟨w.heap.size, 2, none⟩ = some (.int .u8 p.m) := box_cell hb7 2; have c3 : w7.cell? ⟨w.heap.size, 3, none⟩ = some (.int .u8 p.s) := box_cell hb7 3; have c4 : w7.cell? ⟨w.heap.size, 4, none⟩ = some (.int .i8 p.po) := box_cell hb7 4; have c5 : w7.cell? ⟨w.heap.size, 5, none⟩ = some (.int .i8 p.pr) := box_cell hb7 5; have c6 : w7.cell? ⟨w.heap.size, 6, none⟩ = some (.int .u32 p.de) := box_cell hb7 6; have c7 : w7.cell? ⟨w.heap.size, 7, none⟩ = some (.int .u32 p.di) := box_cell hb7 7; have c8 : w7.cell? ⟨w.heap.size, 8, none⟩ = some (.int .u32 p.rs) := box_cell hb7 8; have c9 : w7.cell? ⟨w.heap.size, 9, none⟩ = some (.int .u64 p.rf) := box_cell hb7 9; have c10 : w7.cell? ⟨w.heap.size, 10, none⟩ = some (.int .u64 p.og) := box_cell hb7 10; have c11 : w7.cell? ⟨w.heap.size, 11, none⟩ = some (.int .u64 p.rc) := box_cell hb7 11; have c12 : w7.cell? ⟨w.heap.size, 12, none⟩ = some (.int .u64 p.xm) := box_cell hb7 12
  go_wp2
  go_ret
  refine ⟨v7, rfl, own_base (B := w.heap.size + 1) ?_ (by omega), below_box hb7⟩
  have e : p.bytes = ((((((([64 * p.l + 8 * p.v + p.m, p.s, p.po % 256, p.pr % 256] ++ be 4 p.de) ++ be 4 p.di) ++ be 4 p.rs) ++ be 8 p.rf) ++ be 8 p.og) ++ be 8 p.rc) ++ be 8 p.xm) := by
    unfold Pk.bytes
    simp only [List.append_assoc, List.cons_append, List.nil_append]
    rw [Int.mul_comm p.l, Int.mul_comm p.v]
  rw [e]
  exact O7.out
theorem rput_any (p : Pk) (w : World) (hp : p.In) (hf : p.Fits) : Calls Try.prog 34 #[.agg #[.int .u8 p.l, .int .u8 p.v, .int .u8 p.m, .int .u8 p.s, .int .i8 p.po, .int .i8 p.pr, .int .u32 p.de, .int .u32 p.di, .int .u32 p.rs, .int .u64 p.rf, .int .u64 p.og, .int .u64 p.rc, .int .u64 p.xm]] w (Gives p.bytes w) :=
  (rput_row p w hp hf).mono fun _ _ h => gives_of_row p.bytes_length h

end Go.Proofs.Ytfknefpfekjnnaa
