/- Good's bytes, of which an answer is taken; the document's examples; the reasons' names. -/
import Derived.Test.YtojaliclbfijaaaLook
namespace Go.Proofs.Ytojaliclbfijaaa
open Go.RowKit

def good (c r x : Int) : Pk := ⟨0, 4, 4, 1, 0, 0, 0, 0, 0, 0, c, r, x⟩
/-- A number of 64 bits. -/
def U64 (x : Int) : Prop := 0 ≤ x ∧ x ≤ 18446744073709551615
theorem good_in (c r x : Int) (hc : U64 c) (hr : U64 r) (hx : U64 x) : (good c r x).In := by
  obtain ⟨_, _⟩ := hc; obtain ⟨_, _⟩ := hr; obtain ⟨_, _⟩ := hx
  constructor <;> simp [good] <;> omega
theorem good_fits (c r x : Int) : (good c r x).Fits := by constructor <;> simp [good]

theorem good_any (c r x : Int) (w : World) (hc : U64 c) (hr : U64 r) (hx : U64 x) : Calls Try.prog 13 #[.int .u64 c, .int .u64 r, .int .u64 x] w (Gives (good c r x).bytes w) := by
  have KL := Lib.hid (fun w => put_ok (good c r x) w (good_in c r x hc hr hx) (good_fits c r x))
  go_enter Try.func13, Try.ntmps13
  go_wp2_with fail
  refine (KL.out _).mono ?_
  rintro e w2 ⟨g, cp, rfl, hg1, hg2, hc1, hc2, hh, hb3⟩
  go_wp2
  go_ret
  exact ⟨g, cp, rfl, hg1, hg2, hc1, hc2, hh, hb3⟩
theorem rgood_any (c r x : Int) (w : World) (hc : U64 c) (hr : U64 r) (hx : U64 x) : Calls Try.prog 14 #[.int .u64 c, .int .u64 r, .int .u64 x] w (Gives (good c r x).bytes w) := by
  have KL := Lib.hid (fun w => rput_any (good c r x) w (good_in c r x hc hr hx) (good_fits c r x))
  go_enter Try.func14, Try.ntmps14
  go_wp2_with fail
  refine (KL.out _).mono ?_
  rintro e w2 ⟨g, cp, rfl, hg1, hg2, hc1, hc2, hh, hb3⟩
  go_wp2
  go_ret
  exact ⟨g, cp, rfl, hg1, hg2, hc1, hc2, hh, hb3⟩
theorem look_back (p : Pk) (k : Int) (bs : List Int) (g o len cap : Nat) (w : World) (hp : p.In) (hf : p.Fits) (hbs : AllBytes bs) (hl : (p.bytes ++ bs).length = len) (hlc : len ≤ cap) (hcm : cap ≤ maxLen) (hg : g < w.heap.size) (hc : Has w g o (p.bytes ++ bs)) :
    Calls Try.prog 8 #[.slice (some ⟨g, o, none⟩) len cap, .int .u64 k] w fun e w' => e = .returned (.tuple #[.agg #[.int .u8 (told (whyOf k p 0) p).l, .int .u8 (told (whyOf k p 0) p).v, .int .u8 (told (whyOf k p 0) p).m, .int .u8 (told (whyOf k p 0) p).s, .int .i8 (told (whyOf k p 0) p).po, .int .i8 (told (whyOf k p 0) p).pr, .int .u32 (told (whyOf k p 0) p).de, .int .u32 (told (whyOf k p 0) p).di, .int .u32 (told (whyOf k p 0) p).rs, .int .u64 (told (whyOf k p 0) p).rf, .int .u64 (told (whyOf k p 0) p).og, .int .u64 (told (whyOf k p 0) p).rc, .int .u64 (told (whyOf k p 0) p).xm], .int .i64 (whyOf k p 0)]) ∧ Below w.heap.size w w' := by
  have h48 : 48 ≤ len := by rw [← hl, List.length_append, p.bytes_length]; omega
  have := look_long g o len cap (p.bytes ++ bs) k w hl h48 hlc hcm (all_append (p.bytes_all hp hf) hbs) hg hc
  unfold lookP lookW at this
  rw [if_neg (by omega), if_neg (by omega), pkOf_bytes p bs hp hf] at this
  exact this
/-- Look at just a packet's bytes. -/
theorem look_own (p q : Pk) (k y : Int) (g cap : Nat) (w : World) (hp : p.In) (hf : p.Fits) (hc1 : 48 ≤ cap) (hcm : cap ≤ maxLen) (hg : g < w.heap.size) (hc : Has w g 0 p.bytes) (hy : whyOf k p 0 = y) (hq : told y p = q) :
    Calls Try.prog 8 #[.slice (some ⟨g, 0, none⟩) 48 cap, .int .u64 k] w fun e w' => e = .returned (.tuple #[.agg #[.int .u8 q.l, .int .u8 q.v, .int .u8 q.m, .int .u8 q.s, .int .i8 q.po, .int .i8 q.pr, .int .u32 q.de, .int .u32 q.di, .int .u32 q.rs, .int .u64 q.rf, .int .u64 q.og, .int .u64 q.rc, .int .u64 q.xm], .int .i64 y]) ∧ Below w.heap.size w w' := by
  subst hq hy
  exact look_back p k [] g 0 48 cap w hp hf (fun z hz => by cases hz) (by simp [p.bytes_length]) hc1 hcm hg (by rw [List.append_nil]; exact hc)

theorem u64_of (n : Nat) (h : n ≤ 18446744073709551615) : U64 n := ⟨by omega, by omega⟩
set_option maxHeartbeats 1000000 in
theorem alive_any (w : World) : Calls Try.prog 12 #[] w fun e w' => e = .returned (.bool true) ∧ Below w.heap.size w w' := by
  have hi := good_in 7 1 2 (u64_of 7 (by decide)) (u64_of 1 (by decide)) (u64_of 2 (by decide))
  have KG := Lib.hid (fun w => good_any 7 1 2 w (u64_of 7 (by decide)) (u64_of 1 (by decide)) (u64_of 2 (by decide)))
  have K7 := Lib.hid (fun g cap w h1 h2 h3 h4 => look_own (good 7 1 2) (good 7 1 2) 7 0 g cap w hi (good_fits 7 1 2) h1 h2 h3 h4 (by decide) rfl)
  have K8 := Lib.hid (fun g cap w h1 h2 h3 h4 => look_own (good 7 1 2) zeroPk 8 7 g cap w hi (good_fits 7 1 2) h1 h2 h3 h4 (by decide) rfl)
  clear hi
  go_enter Try.func12, Try.ntmps12
  go_wp2_with fail
  refine (KG.out _).mono ?_
  rintro e w1 ⟨g, c, rfl, hg1, hg2, hc1, hc2, hh, hb1⟩
  have HH := Lib.hid (And.intro hh hb1)
  clear hh hb1
  go_wp2_with fail
  refine (K7.out g c _ hc1 hc2 hg2 HH.out.1).mono ?_
  rintro e w2 ⟨rfl, hb2⟩
  have hs2 := hb2.size
  have H2 := Lib.hid hb2
  clear hb2
  go_wp2_with fail
  refine (K8.out g c _ hc1 hc2 (by simp; omega) ?_).mono ?_
  · exact has_keep (w := w2) (by omega) (fun p hp => World.cell?_alloc_lt _ _ _ hp) (has_below HH.out.1 hg2 H2.out)
  rintro e w3 ⟨rfl, hb3⟩
  have hs3 := hb3.size
  have es : ∀ o, (w2.alloc o).heap.size = w2.heap.size + 1 := by intro o; simp
  rw [es] at hs3
  have r11 : w3.cell? ⟨w2.heap.size, 11, none⟩ = some (.int .u64 1) := round_cell hb3 11
  have r12 : w3.cell? ⟨w2.heap.size, 12, none⟩ = some (.int .u64 2) := round_cell hb3 12
  have q11 : ∀ o, (w3.alloc o).cell? ⟨w2.heap.size, 11, none⟩ = some (.int .u64 1) := fun o => (World.cell?_alloc_lt _ _ _ (by show w2.heap.size < w3.heap.size; omega)).trans r11
  have q12 : ∀ o, (w3.alloc o).cell? ⟨w2.heap.size, 12, none⟩ = some (.int .u64 2) := fun o => (World.cell?_alloc_lt _ _ _ (by show w2.heap.size < w3.heap.size; omega)).trans r12
  have H3 := Lib.hid (And.intro hb3 es)
  clear hb3 r11 r12 es
  go_wp2
  go_ret
  refine ⟨rfl, ?_⟩
  have s1 := HH.out.2.size
  have hb3 := H3.out.1
  rw [H3.out.2] at hb3
  exact ((HH.out.2.trans (H2.out.mono s1)).trans (below_box hb3 |>.mono (by omega))).alloc (by omega) _
end Go.Proofs.Ytojaliclbfijaaa
