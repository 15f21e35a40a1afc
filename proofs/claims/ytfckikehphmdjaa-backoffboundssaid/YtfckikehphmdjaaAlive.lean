/- The document's example. -/
import Derived.Test.YtfckikehphmdjaaDo
namespace Go.Proofs.Ytfckikehphmdjaa
open Go.RowKit

/-- The example's backoff behind so many Fails. -/
def ka : Nat → B
  | 0 => ⟨4, 20, 4, 0⟩
  | 1 => ⟨4, 20, 8, 1⟩
  | 2 => ⟨4, 20, 16, 2⟩
  | 3 => ⟨4, 20, 20, 3⟩
  | _ => ⟨4, 20, 20, 4⟩
theorem ka_fail {j : Nat} (h : j < 4) : (ka j).fail = ka (j + 1) := by
  match j, h with
  | 0, _ => rfl
  | 1, _ => rfl
  | 2, _ => rfl
  | 3, _ => rfl
theorem ka_ok (j : Nat) : (ka j).Ok := by
  unfold ka
  split <;> constructor <;> simp only <;> omega
theorem ka_row {w : World} {g j : Nat} {t : TypeId} {fr : Nat × Nat} (hg : w.heap[g]? = some (.cells #[.int .i64 8, .int .i64 16, .int .i64 20, .int .i64 20] t fr)) (h : j < 4) : w.cell? ⟨g, j, none⟩ = some (.int .i64 (ka (j + 1)).n) := by
  match j, h with
  | 0, _ => exact cell_of_row _ _ 0 _ _ _ hg
  | 1, _ => exact cell_of_row _ _ 1 _ _ _ hg
  | 2, _ => exact cell_of_row _ _ 2 _ _ _ hg
  | 3, _ => exact cell_of_row _ _ 3 _ _ _ hg

set_option maxRecDepth 100000 in
set_option maxHeartbeats 2000000 in
theorem alive_any (w : World) : Calls Try.prog 14 #[] w fun e w' => e = .returned (.bool true) ∧ Below w.heap.size w w' := by
  have KN := Lib.hid (new_ex (x := 4) (y := 20) (w := w) rfl)
  go_enter Try.func14, Try.ntmps14
  go_wp2_with fail
  refine KN.out.mono ?_
  rintro e w1 ⟨b, rfl, ho, hb, hl⟩
  have S0 := Lib.hid (St.mk (w := w) (k := ka 0) hb hl ho)
  have hbl := hb.lt
  clear hb hl ho KN
  go_wp2
  go_loopw [17] (fun v17 wi => ∃ j : Nat, j ≤ 4 ∧ v17 = .int .i64 (j : Int) ∧ Hid (St w wi b (ka j)) ∧ Hid (wi.heap[w1.heap.size]? = some (.cells #[.int .i64 8, .int .i64 16, .int .i64 20, .int .i64 20] 3 (0, 0)))) (fun s _ => 4 - (intOf s).toNat)
  case atStart => exact ⟨0, Nat.zero_le _, rfl, Lib.hid (S0.out.below (bel_alloc _ _)), Lib.hid (heap_alloc_new _ _)⟩
  case round =>
    clear S0
    obtain ⟨j, hj, rfl, S1, R1⟩ := hrel
    by_cases hj4 : j < 4
    · have hc := ka_row R1.out hj4
      have KF := Lib.hid (fail_any b (ka j) wr S1.out.bk (ka_ok j))
      rw [ka_fail hj4, show nx (ka j).n (ka j).m = (ka (j + 1)).n from congrArg B.n (ka_fail hj4)] at KF
      generalize (ka (j + 1)).n = u at *
      go_wp2_with fail
      refine KF.out.mono ?_
      rintro e w2 ⟨rfl, hb2, hl2⟩
      have S2 := Lib.hid (S1.out.but hb2 hl2)
      have R2 := Lib.hid ((hl2.block _ (Array.getElem?_eq_some_iff.1 R1.out).1 (by omega)).trans R1.out)
      clear hb2 hl2 KF S1 R1 hc
      go_wp2
      go_roundw
      case rel => exact ⟨j + 1, by omega, by go_num, S2, R2⟩
      case measure => simp [intOf]; omega
    · obtain rfl : j = 4 := by omega
      have KT := Lib.hid (times_any b (ka 4) wr S1.out.bk)
      have KG := Lib.hid (good_any b (ka 4) wr S1.out.bk)
      rw [show (ka 4).t = 4 from rfl] at KT
      rw [show (ka 4).l = 4 from rfl] at KG
      clear R1
      go_wp2_with fail
      refine KT.out.mono ?_
      rintro e w2 ⟨rfl, rfl⟩
      go_wp2_with fail
      refine KG.out.mono ?_
      rintro e w2 ⟨rfl, hb2, hl2⟩
      have S2 := Lib.hid (S1.out.but hb2 hl2)
      have KT2 := Lib.hid (times_any b _ w2 hb2)
      rw [show (ka 4).good.t = 0 from rfl] at KT2
      clear hb2 hl2 KT KG S1
      go_wp2_with fail
      refine KT2.out.mono ?_
      rintro e w3 ⟨rfl, rfl⟩
      go_wp2
      go_ret
      exact ⟨rfl, S2.out.bel⟩
end Go.Proofs.Ytfckikehphmdjaa
