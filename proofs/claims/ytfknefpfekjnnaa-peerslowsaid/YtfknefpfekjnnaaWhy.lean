/- Whether an answer may be taken: the tests and the first reason that applies. -/
import Derived.Test.YtfknefpfekjnnaaBack
import Derived.Laws.EntriesVeiled
namespace Go.Proofs.Ytfknefpfekjnnaa
open Go.RowKit

/-- The first of some tests that applies. -/
def whyL : List (Int × Bool) → Int
  | [] => 0
  | (n, b) :: t => if b = true then n else whyL t
/-- The tests, in order: of a cookie, a packet, and what was wrong with its bytes. -/
def tests (k : Int) (p : Pk) (e : Int) : List (Int × Bool) :=
  [(1, decide (e ≠ 0)), (5, decide (p.v ≠ 4)), (6, decide (p.m ≠ 4)), (7, decide (k = 0 ∨ p.og ≠ k)), (8, decide (p.s = 0)), (9, decide (p.l = 3)), (10, decide (15 < p.s)), (11, decide (p.rc = 0 ∨ p.xm = 0))]
def whyOf (k : Int) (p : Pk) (e : Int) : Int := whyL (tests k p e)

/-- What a test answers. -/
def Says (b : Bool) (w : World) (x : Ending) (w' : World) : Prop := x = .returned (.bool b) ∧ Below w.heap.size w w'
theorem says {w : World} {o : Obj} {b c : Bool} (h : c = b) : Says b w (.returned (.bool c)) (w.alloc o) := ⟨by rw [h], (Below.refl _ _).alloc (Nat.le_refl _) _⟩

theorem app1 (k e : Int) (p : Pk) (w : World) : Calls Try.prog 79 #[.agg #[.int .u64 k, .int .u8 p.l, .int .u8 p.v, .int .u8 p.m, .int .u8 p.s, .int .i8 p.po, .int .i8 p.pr, .int .u32 p.de, .int .u32 p.di, .int .u32 p.rs, .int .u64 p.rf, .int .u64 p.og, .int .u64 p.rc, .int .u64 p.xm, .int .i64 e]] w (Says (decide (e ≠ 0)) w) := by
  by_cases h : e = 0
  · rw [show decide (e ≠ 0) = false by simpa using h]
    go_enter Try.func79, Try.ntmps79
    go_wp2
    go_ret
    exact says (by simp [*])
  · rw [show decide (e ≠ 0) = true by simpa using h]
    go_enter Try.func79, Try.ntmps79
    go_wp2
    go_ret
    exact says (by simp [*])
theorem app2 (k e : Int) (p : Pk) (w : World) : Calls Try.prog 80 #[.agg #[.int .u64 k, .int .u8 p.l, .int .u8 p.v, .int .u8 p.m, .int .u8 p.s, .int .i8 p.po, .int .i8 p.pr, .int .u32 p.de, .int .u32 p.di, .int .u32 p.rs, .int .u64 p.rf, .int .u64 p.og, .int .u64 p.rc, .int .u64 p.xm, .int .i64 e]] w (Says (decide (p.v ≠ 4)) w) := by
  by_cases h : p.v = 4
  · rw [show decide (p.v ≠ 4) = false by simpa using h]
    go_enter Try.func80, Try.ntmps80
    go_wp2
    go_ret
    exact says (by simp [*])
  · rw [show decide (p.v ≠ 4) = true by simpa using h]
    go_enter Try.func80, Try.ntmps80
    go_wp2
    go_ret
    exact says (by simp [*])
theorem app3 (k e : Int) (p : Pk) (w : World) : Calls Try.prog 81 #[.agg #[.int .u64 k, .int .u8 p.l, .int .u8 p.v, .int .u8 p.m, .int .u8 p.s, .int .i8 p.po, .int .i8 p.pr, .int .u32 p.de, .int .u32 p.di, .int .u32 p.rs, .int .u64 p.rf, .int .u64 p.og, .int .u64 p.rc, .int .u64 p.xm, .int .i64 e]] w (Says (decide (p.m ≠ 4)) w) := by
  by_cases h : p.m = 4
  · rw [show decide (p.m ≠ 4) = false by simpa using h]
    go_enter Try.func81, Try.ntmps81
    go_wp2
    go_ret
    exact says (by simp [*])
  · rw [show decide (p.m ≠ 4) = true by simpa using h]
    go_enter Try.func81, Try.ntmps81
    go_wp2
    go_ret
    exact says (by simp [*])
theorem app4 (k e : Int) (p : Pk) (w : World) : Calls Try.prog 82 #[.agg #[.int .u64 k, .int .u8 p.l, .int .u8 p.v, .int .u8 p.m, .int .u8 p.s, .int .i8 p.po, .int .i8 p.pr, .int .u32 p.de, .int .u32 p.di, .int .u32 p.rs, .int .u64 p.rf, .int .u64 p.og, .int .u64 p.rc, .int .u64 p.xm, .int .i64 e]] w (Says (decide (k = 0 ∨ p.og ≠ k)) w) := by
  by_cases h : k = 0
  · rw [show decide (k = 0 ∨ p.og ≠ k) = true by simp [h]]
    go_enter Try.func82, Try.ntmps82
    go_wp2
    go_ret
    exact says (by simp [*])
  · by_cases h2 : p.og = k
    · rw [show decide (k = 0 ∨ p.og ≠ k) = false by simp [h, h2]]
      go_enter Try.func82, Try.ntmps82
      go_wp2
      go_ret
      exact says (by simp [*])
    · rw [show decide (k = 0 ∨ p.og ≠ k) = true by simp [h2]]
      go_enter Try.func82, Try.ntmps82
      go_wp2
      go_ret
      exact says (by simp [*])
theorem app5 (k e : Int) (p : Pk) (w : World) : Calls Try.prog 83 #[.agg #[.int .u64 k, .int .u8 p.l, .int .u8 p.v, .int .u8 p.m, .int .u8 p.s, .int .i8 p.po, .int .i8 p.pr, .int .u32 p.de, .int .u32 p.di, .int .u32 p.rs, .int .u64 p.rf, .int .u64 p.og, .int .u64 p.rc, .int .u64 p.xm, .int .i64 e]] w (Says (decide (p.s = 0)) w) := by
  by_cases h : p.s = 0
  · rw [show decide (p.s = 0) = true by simpa using h]
    go_enter Try.func83, Try.ntmps83
    go_wp2
    go_ret
    exact says (by simp [*])
  · rw [show decide (p.s = 0) = false by simpa using h]
    go_enter Try.func83, Try.ntmps83
    go_wp2
    go_ret
    exact says (by simp [*])
theorem app6 (k e : Int) (p : Pk) (w : World) : Calls Try.prog 84 #[.agg #[.int .u64 k, .int .u8 p.l, .int .u8 p.v, .int .u8 p.m, .int .u8 p.s, .int .i8 p.po, .int .i8 p.pr, .int .u32 p.de, .int .u32 p.di, .int .u32 p.rs, .int .u64 p.rf, .int .u64 p.og, .int .u64 p.rc, .int .u64 p.xm, .int .i64 e]] w (Says (decide (p.l = 3)) w) := by
  by_cases h : p.l = 3
  · rw [show decide (p.l = 3) = true by simpa using h]
    go_enter Try.func84, Try.ntmps84
    go_wp2
    go_ret
    exact says (by simp [*])
  · rw [show decide (p.l = 3) = false by simpa using h]
    go_enter Try.func84, Try.ntmps84
    go_wp2
    go_ret
    exact says (by simp [*])
theorem app7 (k e : Int) (p : Pk) (w : World) : Calls Try.prog 85 #[.agg #[.int .u64 k, .int .u8 p.l, .int .u8 p.v, .int .u8 p.m, .int .u8 p.s, .int .i8 p.po, .int .i8 p.pr, .int .u32 p.de, .int .u32 p.di, .int .u32 p.rs, .int .u64 p.rf, .int .u64 p.og, .int .u64 p.rc, .int .u64 p.xm, .int .i64 e]] w (Says (decide (15 < p.s)) w) := by
  by_cases h : 15 < p.s
  · rw [show decide (15 < p.s) = true by simpa using h]
    go_enter Try.func85, Try.ntmps85
    go_wp2
    go_ret
    exact says (by simp [*])
  · rw [show decide (15 < p.s) = false by simpa using h]
    go_enter Try.func85, Try.ntmps85
    go_wp2
    go_ret
    exact says (by simp [*])
theorem app8 (k e : Int) (p : Pk) (w : World) : Calls Try.prog 86 #[.agg #[.int .u64 k, .int .u8 p.l, .int .u8 p.v, .int .u8 p.m, .int .u8 p.s, .int .i8 p.po, .int .i8 p.pr, .int .u32 p.de, .int .u32 p.di, .int .u32 p.rs, .int .u64 p.rf, .int .u64 p.og, .int .u64 p.rc, .int .u64 p.xm, .int .i64 e]] w (Says (decide (p.rc = 0 ∨ p.xm = 0)) w) := by
  by_cases h : p.rc = 0
  · rw [show decide (p.rc = 0 ∨ p.xm = 0) = true by simp [h]]
    go_enter Try.func86, Try.ntmps86
    go_wp2
    go_ret
    exact says (by simp [*])
  · by_cases h2 : p.xm = 0
    · rw [show decide (p.rc = 0 ∨ p.xm = 0) = true by simp [h2]]
      go_enter Try.func86, Try.ntmps86
      go_wp2
      go_ret
      exact says (by simp [*])
    · rw [show decide (p.rc = 0 ∨ p.xm = 0) = false by simp [h, h2]]
      go_enter Try.func86, Try.ntmps86
      go_wp2
      go_ret
      exact says (by simp [*])

def testCells : Array Value := #[.int .i64 1, .func (.func 79) #[] #[], .int .i64 5, .func (.func 80) #[] #[], .int .i64 6, .func (.func 81) #[] #[], .int .i64 7, .func (.func 82) #[] #[], .int .i64 8, .func (.func 83) #[] #[], .int .i64 9, .func (.func 84) #[] #[], .int .i64 10, .func (.func 85) #[] #[], .int .i64 11, .func (.func 86) #[] #[]]
theorem tests_any (w : World) : Calls Try.prog 69 #[] w fun x w' => x = .returned (.slice (some ⟨w.heap.size, 0, none⟩) 8 8) ∧ w' = w.alloc (.cells testCells 114) := by
  go_enter Try.func69, Try.ntmps69
  go_wp2
  go_ret
  exact ⟨rfl, rfl⟩
end Go.Proofs.Ytfknefpfekjnnaa
