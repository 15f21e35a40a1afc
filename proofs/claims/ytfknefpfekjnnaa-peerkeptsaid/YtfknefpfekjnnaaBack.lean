/- A packet got of the bytes that a call laid. -/
import Derived.Test.YtfknefpfekjnnaaPget
namespace Go.Proofs.Ytfknefpfekjnnaa
open Go.RowKit

theorem all_append {xs ys : List Int} (h : AllBytes xs) (k : AllBytes ys) : AllBytes (xs ++ ys) := fun z hz => by
  rcases List.mem_append.1 hz with h1 | h1
  · exact h z h1
  · exact k z h1
theorem Pk.bytes_all (p : Pk) (hp : p.In) (hf : p.Fits) : AllBytes p.bytes := by
  have a1 := hp.l0; have a2 := hf.l; have a3 := hp.v0; have a4 := hf.v; have a5 := hp.m0; have a6 := hf.m; have a7 := hp.s0; have a8 := hp.s1
  unfold Pk.bytes
  refine all_append ?_ (all_append (be_bytes _ _) (all_append (be_bytes _ _) (all_append (be_bytes _ _) (all_append (be_bytes _ _) (all_append (be_bytes _ _) (all_append (be_bytes _ _) (be_bytes _ _)))))))
  intro z hz
  simp only [List.mem_cons, List.not_mem_nil, or_false] at hz
  unfold IsByte
  rcases hz with rfl | rfl | rfl | rfl <;> omega

theorem get_back (p : Pk) (bs : List Int) (g o len cap : Nat) (w : World) (hp : p.In) (hf : p.Fits) (hbs : AllBytes bs) (hl : (p.bytes ++ bs).length = len) (hlc : len ≤ cap) (hcm : cap ≤ maxLen) (hg : g < w.heap.size) (hc : Has w g o (p.bytes ++ bs)) :
    Calls Try.prog 26 #[.slice (some ⟨g, o, none⟩) len cap] w fun e w' => e = .returned (.tuple #[.agg #[.int .u8 p.l, .int .u8 p.v, .int .u8 p.m, .int .u8 p.s, .int .i8 p.po, .int .i8 p.pr, .int .u32 p.de, .int .u32 p.di, .int .u32 p.rs, .int .u64 p.rf, .int .u64 p.og, .int .u64 p.rc, .int .u64 p.xm], .int .i64 0]) ∧ Below w.heap.size w w' := by
  have h48 : 48 ≤ len := by rw [← hl, List.length_append, p.bytes_length]; omega
  have := get_ok g o len cap (p.bytes ++ bs) w hl h48 hlc hcm (all_append (p.bytes_all hp hf) hbs) hg hc
  rw [pkOf_bytes p bs hp hf] at this
  exact this

theorem below_of_drew {B : Nat} {a w : World} (h : Below B a.drew w) : Below B a w := ⟨h.os, h.tape, h.output, h.size, h.block⟩
theorem has_below {w w' : World} {g o : Nat} {zs : List Int} (h : Has w g o zs) (hg : g < w.heap.size) (hb : Below w.heap.size w w') : Has w' g o zs := fun t ht => (hb.cell (p := ⟨g, o + t, none⟩) hg).trans (h t ht)
/-- Bytes as a string, of the bytes that lie there. -/
theorem run_string {w : World} {g o c : Nat} {xs : List Int} (n : Nat) (hl : xs.length = n) (h : Has w g o xs) : (convert 35 9 (.slice (some ⟨g, o, none⟩) n c)).run Try.prog w = .ok (.string (strOfNums xs)) w :=
  run_convert_bytes_arg w 35 5 Try.underlying35 Try.underlying5 g o n c xs hl (fun i hi => h i (by omega)) 9 Try.underlying9

end Go.Proofs.Ytfknefpfekjnnaa
