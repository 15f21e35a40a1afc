/- The calls that answer with bytes: Put, Query; the document's example. -/
import Derived.Test.YtfknefpfekjnnaaLay
namespace Go.Proofs.Ytfknefpfekjnnaa
open Go.RowKit

theorem below_succ {w w' : World} {o : Obj} (h : Below (w.alloc o).heap.size (w.alloc o) w') : Below (w.heap.size + 1) (w.alloc o) w' := h.mono (by simp)

/-- What Put leaves of a packet with which nothing is wrong. -/
def GivesPut (xs : List Int) (w : World) (e : Ending) (w' : World) : Prop :=
  ∃ g c, e = .returned (.tuple #[.slice (some ⟨g, 0, none⟩) 48 c, .int .i64 0]) ∧ w.heap.size ≤ g ∧ g < w'.heap.size ∧ 48 ≤ c ∧ c ≤ maxLen ∧ Has w' g 0 xs ∧ Below w.heap.size w w'

theorem put_ok (p : Pk) (w : World) (hp : p.In) (hf : p.Fits) : Calls Try.prog 41 #[.agg #[.int .u8 p.l, .int .u8 p.v, .int .u8 p.m, .int .u8 p.s, .int .i8 p.po, .int .i8 p.pr, .int .u32 p.de, .int .u32 p.di, .int .u32 p.rs, .int .u64 p.rf, .int .u64 p.og, .int .u64 p.rc, .int .u64 p.xm]] w (GivesPut p.bytes w) := by
  have KC := Lib.hid (fun w => check_ok p w hp hf)
  have KL := Lib.hid (fun w => lay_any p w hp hf)
  go_enter Try.func41, Try.ntmps41
  go_wp2_with fail
  refine (KC.out _).mono ?_
  rintro e w1 ⟨rfl, hb1⟩
  have hb2 := below_succ hb1
  have c0 : w1.cell? ⟨w.heap.size, 0, none⟩ = some (.int .u8 p.l) := box_cell hb2 0; have c1 : w1.cell? ⟨w.heap.size, 1, none⟩ = some (.int .u8 p.v) := box_cell hb2 1; have c2 : w1.cell? ⟨w.heap.size, 2, none⟩ = some (.int .u8 p.m) := box_cell hb2 2; have c3 : w1.cell? ⟨w.heap.size, 3, none⟩ = some (.int .u8 p.s) := box_cell hb2 3; have c4 : w1.cell? ⟨w.heap.size, 4, none⟩ = some (.int .i8 p.po) := box_cell hb2 4; have c5 : w1.cell? ⟨w.heap.size, 5, none⟩ = some (.int .i8 p.pr) := box_cell hb2 5; have c6 : w1.cell? ⟨w.heap.size, 6, none⟩ = some (.int .u32 p.de) := box_cell hb2 6; have c7 : w1.cell? ⟨w.heap.size, 7, none⟩ = some (.int .u32 p.di) := box_cell hb2 7; have c8 : w1.cell? ⟨w.heap.size, 8, none⟩ = some (.int .u32 p.rs) := box_cell hb2 8; have c9 : w1.cell? ⟨w.heap.size, 9, none⟩ = some (.int .u64 p.rf) := box_cell hb2 9; have c10 : w1.cell? ⟨w.heap.size, 10, none⟩ = some (.int .u64 p.og) := box_cell hb2 10; have c11 : w1.cell? ⟨w.heap.size, 11, none⟩ = some (.int .u64 p.rc) := box_cell hb2 11; have c12 : w1.cell? ⟨w.heap.size, 12, none⟩ = some (.int .u64 p.xm) := box_cell hb2 12
  clear hb1
  go_wp2_with fail
  refine (KL.out _).mono ?_
  rintro e w2 ⟨g, c, rfl, hg1, hg2, hc1, hc2, hh, hb3⟩
  clear c0 c1 c2 c3 c4 c5 c6 c7 c8 c9 c10 c11 c12
  go_wp2
  go_ret2
  have hs := hb2.size
  simp at hs
  exact ⟨g, c, rfl, by omega, hg2, hc1, hc2, hh, below_box (hb2.trans (hb3.mono (by omega)))⟩
theorem put_bad (p : Pk) (w : World) (hp : p.In) (hf : ¬ p.Fits) :
    Calls Try.prog 41 #[.agg #[.int .u8 p.l, .int .u8 p.v, .int .u8 p.m, .int .u8 p.s, .int .i8 p.po, .int .i8 p.pr, .int .u32 p.de, .int .u32 p.di, .int .u32 p.rs, .int .u64 p.rf, .int .u64 p.og, .int .u64 p.rc, .int .u64 p.xm]] w fun e w' => e = .returned (.tuple #[.slice none 0 0, .int .i64 3]) ∧ Below w.heap.size w w' := by
  have KC := Lib.hid (fun w => check_bad p w hp hf)
  go_enter Try.func41, Try.ntmps41
  go_wp2_with fail
  refine (KC.out _).mono ?_
  rintro e w1 ⟨rfl, hb1⟩
  have hb2 := below_succ hb1
  clear hb1
  go_wp2
  go_ret2
  exact ⟨rfl, below_box hb2⟩

def query (x : Int) : Pk := ⟨0, 4, 3, 0, 0, 0, 0, 0, 0, 0, 0, 0, x⟩
theorem query_in (x : Int) (h0 : 0 ≤ x) (h1 : x ≤ 18446744073709551615) : (query x).In := by
  constructor <;> simp [query] <;> omega
theorem query_fits (x : Int) : (query x).Fits := by constructor <;> simp [query]
theorem query_any (x : Int) (w : World) (h0 : 0 ≤ x) (h1 : x ≤ 18446744073709551615) : Calls Try.prog 33 #[.int .u64 x] w (Gives (query x).bytes w) := by
  have KL := Lib.hid (fun w => lay_any (query x) w (query_in x h0 h1) (query_fits x))
  go_enter Try.func33, Try.ntmps33
  go_wp2_with fail
  refine (KL.out _).mono ?_
  rintro e w2 ⟨g, c, rfl, hg1, hg2, hc1, hc2, hh, hb3⟩
  go_wp2
  go_ret
  exact ⟨g, c, rfl, hg1, hg2, hc1, hc2, hh, hb3⟩

end Go.Proofs.Ytfknefpfekjnnaa
