/- Arrays of thirteen numbers as values: two of them compared, one asked at a place. No program in this text. -/
import Derived.Test.YtfhpckglckcdjaaDoorCt
import Derived.Laws.StructEq
import Derived.Laws.Rows
import Derived.Below
namespace Go.Proofs.Lx
open Go

/-- A number's cell. -/
def NI (n : Nat) : Value := .int .i64 (n : Int)
/-- The cells of some numbers. -/
def cellsN (N : List Nat) : Array Value := (N.map NI).toArray
theorem cells_size (N : List Nat) : (cellsN N).size = N.length := by simp [cellsN]
theorem cells_at (N : List Nat) (i : Nat) (h : i < N.length) : (cellsN N)[i]? = some (.int .i64 (N.getD i 0 : Nat)) := by
  simp [cellsN, NI, List.getD_eq_getElem?_getD, h]
theorem cells_one (N : List Nat) : (cellsN N).all (·.oneCell') = true := by
  simp [cellsN, NI, Value.oneCell']
theorem cells_set (N : List Nat) (k n : Nat) : (cellsN N).setIfInBounds k (.int .i64 (n : Int)) = cellsN (N.set k n) := by
  simp [cellsN, List.map_set, NI]
theorem all_range_eq : ∀ (xs ys : List Nat), xs.length = ys.length → ((List.range xs.length).all fun i => xs.getD i 0 == ys.getD i 0) = (xs == ys)
  | [], [], _ => rfl
  | x :: xs, y :: ys, h => by
    have ih := all_range_eq xs ys (by simpa using h)
    rw [List.length_cons, List.range_succ_eq_map, List.all_cons, List.all_map]
    simp only [List.getD_cons_zero, Function.comp_def, List.getD_cons_succ, ih]
    simp [List.cons_beq_cons]
  | [], _ :: _, h => by simp at h
  | _ :: _, [], h => by simp at h
section
variable {P : Program} (w : World)
theorem part_cells (e : TypeId) (he : P.underlying e = some (.int .i64)) (N : List Nat) (i : Nat) (h : i < N.length) : (part e (cellsN N) (i * 1)).run P w = .ok (.int .i64 (N.getD i 0 : Nat)) w := by
  have := cells_at N i h
  simp [part, isAgg, run_underlying he, this]
theorem run_equalIn_cells (d : Nat) (t e : TypeId) (n : Nat) (ht : P.underlying t = some (.array n e)) (he : P.underlying e = some (.int .i64)) (hsz : ∀ w, (sizeOf e).run P w = .ok 1 w)
    (xs ys : List Nat) (hx : xs.length = n) (hy : ys.length = n) :
    (Op.equalIn (d + 2) t (.agg (cellsN xs)) (.agg (cellsN ys))).run P w = .ok (xs == ys) w := by
  rw [← all_range_eq xs ys (hx.trans hy.symm), hx, List.range_eq_range', Op.equalIn]
  simp only [Sem.run_bind, run_underlying ht, Result.andThen_ok, hsz, Std.Legacy.Range.forIn_eq_forIn_range', Std.Legacy.Range.size, Nat.sub_zero, Nat.add_sub_cancel, Nat.div_one]
  have hl : ∀ i ∈ List.range' 0 n 1, i < n := fun i hi => by simpa using (List.mem_range'_1.1 hi).2
  generalize List.range' 0 n 1 = l at hl ⊢
  induction l with
  | nil => simp
  | cons i l ih =>
    have hi : i < n := hl i (by simp)
    have px := part_cells (P := P) w e he xs i (by omega)
    have py := part_cells (P := P) w e he ys i (by omega)
    have pe : (Op.equalIn (d + 1) e (.int .i64 (xs.getD i 0 : Nat)) (.int .i64 (ys.getD i 0 : Nat))).run P w = .ok (xs.getD i 0 == ys.getD i 0) w := by
      rw [run_equalIn_int w d e .i64 .i64 _ _ he]
      congr 1
      rw [Bool.eq_iff_iff]
      simp
      omega
    simp only [List.forIn_cons, Sem.run_bind, px, py, pe, Result.andThen_ok, List.all_cons]
    cases hb : (xs.getD i 0 == ys.getD i 0)
    · simp
    · simp only [Bool.not_true, Bool.false_eq_true, if_false, Sem.run_pure, Result.andThen_ok, Bool.true_and]
      exact ih fun j hj => hl j (by simp [hj])
theorem run_eql_cells (t e : TypeId) (n : Nat) (ht : P.underlying t = some (.array n e)) (he : P.underlying e = some (.int .i64)) (hsz : ∀ w, (sizeOf e).run P w = .ok 1 w)
    (xs ys : List Nat) (hx : xs.length = n) (hy : ys.length = n) :
    (binOp .eql t (.agg (cellsN xs)) (.agg (cellsN ys))).run P w = .ok (.bool (xs == ys)) w := by
  rw [run_eql_struct, run_equalIn_cells w 9998 t e n ht he hsz xs ys hx hy]
  rfl
theorem run_index_cells (t e : TypeId) (n : Nat) (ht : P.underlying t = some (.array n e)) (he : P.underlying e = some (.int .i64)) (hsz : ∀ w, (sizeOf e).run P w = .ok 1 w)
    (N : List Nat) (hN : N.length = n) (i : Nat) (hi : i < n) (k : IntKind) (z : Int) (hz : z = (i : Int)) : (Instr.index t (.agg (cellsN N)) (.int k z)).run P w = .ok (.int .i64 (N.getD i 0 : Nat)) w := by
  subst hz
  have hp := part_cells (P := P) w e he N i (by omega)
  have h1 : (0 : Int) ≤ (i : Int) ∧ (i : Int) < (n : Int) := by omega
  simp only [Instr.index, Sem.run_bind, run_underlying ht, asIntOf, Sem.run_pure, Result.andThen_ok, if_pos h1, hsz, Int.toNat_natCast, hp]
end
end Go.Proofs.Lx
