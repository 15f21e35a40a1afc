/- Good's bytes, of which an answer is taken; the document's examples; the reasons' names. -/
import Derived.Test.YtfknefpfekjnnaaLook
namespace Go.Proofs.Ytfknefpfekjnnaa
open Go.RowKit

def good (c r x : Int) : Pk := ⟨0, 4, 4, 1, 0, 0, 0, 0, 0, 0, c, r, x⟩
/-- A number of 64 bits. -/
def U64 (x : Int) : Prop := 0 ≤ x ∧ x ≤ 18446744073709551615
theorem good_in (c r x : Int) (hc : U64 c) (hr : U64 r) (hx : U64 x) : (good c r x).In := by
  obtain ⟨_, _⟩ := hc; obtain ⟨_, _⟩ := hr; obtain ⟨_, _⟩ := hx
  constructor <;> simp [good] <;> omega
theorem good_fits (c r x : Int) : (good c r x).Fits := by constructor <;> simp [good]

theorem good_any (c r x : Int) (w : World) (hc : U64 c) (hr : U64 r) (hx : U64 x) : Calls Try.prog 17 #[.int .u64 c, .int .u64 r, .int .u64 x] w (Gives (good c r x).bytes w) := by
  have KL := Lib.hid (fun w => put_ok (good c r x) w (good_in c r x hc hr hx) (good_fits c r x))
  go_enter Try.func17, Try.ntmps17
  go_wp2_with fail
  refine (KL.out _).mono ?_
  rintro e w2 ⟨g, cp, rfl, hg1, hg2, hc1, hc2, hh, hb3⟩
  go_wp2
  go_ret
  exact ⟨g, cp, rfl, hg1, hg2, hc1, hc2, hh, hb3⟩
theorem look_back (p : Pk) (k : Int) (bs : List Int) (g o len cap : Nat) (w : World) (hp : p.In) (hf : p.Fits) (hbs : AllBytes bs) (hl : (p.bytes ++ bs).length = len) (hlc : len ≤ cap) (hcm : cap ≤ maxLen) (hg : g < w.heap.size) (hc : Has w g o (p.bytes ++ bs)) :
    Calls Try.prog 27 #[.slice (some ⟨g, o, none⟩) len cap, .int .u64 k] w fun e w' => e = .returned (.tuple #[.agg #[.int .u8 (told (whyOf k p 0) p).l, .int .u8 (told (whyOf k p 0) p).v, .int .u8 (told (whyOf k p 0) p).m, .int .u8 (told (whyOf k p 0) p).s, .int .i8 (told (whyOf k p 0) p).po, .int .i8 (told (whyOf k p 0) p).pr, .int .u32 (told (whyOf k p 0) p).de, .int .u32 (told (whyOf k p 0) p).di, .int .u32 (told (whyOf k p 0) p).rs, .int .u64 (told (whyOf k p 0) p).rf, .int .u64 (told (whyOf k p 0) p).og, .int .u64 (told (whyOf k p 0) p).rc, .int .u64 (told (whyOf k p 0) p).xm], .int .i64 (whyOf k p 0)]) ∧ Below w.heap.size w w' := by
  have h48 : 48 ≤ len := by rw [← hl, List.length_append, p.bytes_length]; omega
  have := look_long g o len cap (p.bytes ++ bs) k w hl h48 hlc hcm (all_append (p.bytes_all hp hf) hbs) hg hc
  unfold lookP lookW at this
  rw [if_neg (by omega), if_neg (by omega), pkOf_bytes p bs hp hf] at this
  exact this
/-- Look at just a packet's bytes. -/
theorem look_own (p q : Pk) (k y : Int) (g cap : Nat) (w : World) (hp : p.In) (hf : p.Fits) (hc1 : 48 ≤ cap) (hcm : cap ≤ maxLen) (hg : g < w.heap.size) (hc : Has w g 0 p.bytes) (hy : whyOf k p 0 = y) (hq : told y p = q) :
    Calls Try.prog 27 #[.slice (some ⟨g, 0, none⟩) 48 cap, .int .u64 k] w fun e w' => e = .returned (.tuple #[.agg #[.int .u8 q.l, .int .u8 q.v, .int .u8 q.m, .int .u8 q.s, .int .i8 q.po, .int .i8 q.pr, .int .u32 q.de, .int .u32 q.di, .int .u32 q.rs, .int .u64 q.rf, .int .u64 q.og, .int .u64 q.rc, .int .u64 q.xm], .int .i64 y]) ∧ Below w.heap.size w w' := by
  subst hq hy
  exact look_back p k [] g 0 48 cap w hp hf (fun z hz => by cases hz) (by simp [p.bytes_length]) hc1 hcm hg (by rw [List.append_nil]; exact hc)

theorem u64_of (n : Nat) (h : n ≤ 18446744073709551615) : U64 n := ⟨by omega, by omega⟩
end Go.Proofs.Ytfknefpfekjnnaa
