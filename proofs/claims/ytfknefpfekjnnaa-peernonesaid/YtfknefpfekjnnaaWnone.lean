/- Of no peer. -/
import Derived.Test.YtfknefpfekjnnaaAlive
namespace Go.Proofs.Ytfknefpfekjnnaa
open Go.RowKit

theorem state_nil (w : World) : Calls Try.prog 22 #[.pointer none] w fun e w' => e = .returned (.int .i64 2) ∧ w = w' := by
  go_enter Try.func22, Try.ntmps22
  go_wp2
  go_ret
  exact ⟨rfl, rfl⟩
theorem wait_nil (w : World) : Calls Try.prog 23 #[.pointer none] w fun e w' => e = .returned (.int .i64 0) ∧ w = w' := by
  go_enter Try.func23, Try.ntmps23
  go_wp2
  go_ret
  exact ⟨rfl, rfl⟩
theorem next_nil (w : World) : Calls Try.prog 24 #[.pointer none] w fun e w' => e = .returned (.int .i64 0) ∧ w = w' := by
  go_enter Try.func24, Try.ntmps24
  go_wp2
  go_ret
  exact ⟨rfl, rfl⟩
theorem due_nil (x : Int) (w : World) : Calls Try.prog 20 #[.pointer none, .int .i64 x] w fun e w' => e = .returned (.bool false) ∧ w = w' := by
  have K := Lib.hid (fun w => state_nil w)
  go_enter Try.func20, Try.ntmps20
  go_wp2_with fail
  refine (K.out _).mono ?_
  rintro e w1 ⟨rfl, rfl⟩
  go_wp2
  go_ret
  exact ⟨rfl, rfl⟩
theorem islate_nil (x : Int) (w : World) : Calls Try.prog 35 #[.pointer none, .int .i64 x] w fun e w' => e = .returned (.bool false) ∧ w = w' := by
  have K := Lib.hid (fun w => state_nil w)
  go_enter Try.func35, Try.ntmps35
  go_wp2_with fail
  refine (K.out _).mono ?_
  rintro e w1 ⟨rfl, rfl⟩
  go_wp2
  go_ret
  exact ⟨rfl, rfl⟩
theorem late_nil (x : Int) (w : World) : Calls Try.prog 15 #[.pointer none, .int .i64 x] w fun e w' => e = .returned (.bool false) ∧ w = w' := by
  have K := Lib.hid (fun w => islate_nil x w)
  go_enter Try.func15, Try.ntmps15
  go_wp2_with fail
  refine (K.out _).mono ?_
  rintro e w1 ⟨rfl, rfl⟩
  go_wp2
  go_ret
  exact ⟨rfl, rfl⟩
theorem ask_nil (x c ck : Int) (w : World) : Calls Try.prog 13 #[.pointer none, .int .i64 x, .int .i64 c, .int .u64 ck] w fun e w' => e = .returned (.tuple #[.slice none 0 0, .int .i64 1]) ∧ w = w' := by
  go_enter Try.func13, Try.ntmps13
  go_wp2
  go_ret2
  exact ⟨rfl, rfl⟩
set_option maxRecDepth 100000 in
set_option maxHeartbeats 1000000 in
theorem look_nil (x : Int) (v : Value) (w : World) : Calls Try.prog 42 #[.pointer none, .int .i64 x, v] w fun e w' => e = .returned (.tuple #[.agg zeroPk.arr, .int .i64 2]) ∧ Below w.heap.size w w' := by
  go_enter Try.func42, Try.ntmps42
  go_wp2
  exact bodyPost_ret (results_cell2 (g := w.heap.size) (t' := 57) (cs := zeroPk.arr) (fr := (0, 0)) rfl _ _ _ rfl (heap_alloc_new w _) Try.underlying57 rfl info27) rfl ⟨rfl, bel_alloc _ _⟩
set_option maxHeartbeats 1000000 in
theorem answer_nil (x c s : Int) (v : Value) (w : World) : Calls Try.prog 18 #[.pointer none, .int .i64 x, .int .i64 c, .int .i64 s, v] w fun e w' => e = .returned (.tuple #[.agg (smp 0 0 0 0), .int .i64 2]) ∧ Below w.heap.size w w' := by
  have K := Lib.hid (fun w => look_nil x v w)
  go_enter Try.func18, Try.ntmps18
  go_wp2_with fail
  refine (K.out _).mono ?_
  rintro e w1 ⟨rfl, hb⟩
  have HR := Lib.hid (box_old (o2 := .cells zeroPk.arr 57) hb (Below.refl _ _))
  clear hb
  go_wp2_with (refine wpList_store_res rfl 47 (.tmp 10) (.tmp 30) rfl w.heap.size (smp 0 0 0 0) rfl rfl 47 _ HR.out.2.2 info47 rfl (one4 _ _ _ _) ?_; intro W hW hbW hW2; have HW := Lib.hid (And.intro hW (hbW _ _ (bel_trans HR.out.2.1 (bel_alloc _ _)) (Nat.le_refl _))); clear hW hbW hW2)
  exact bodyPost_ret (results_cell2 (g := w.heap.size) rfl _ _ _ _ _ _ rfl HW.out.1 Try.underlying47 rfl info47) rfl ⟨rfl, HW.out.2⟩
set_option maxRecDepth 100000 in
set_option maxHeartbeats 2000000 in
theorem walk_none (a0 a1 a2 : Int) (w : World) : Calls Try.prog 4 #[.int .i64 a0, .int .i64 a1, .int .u64 a2] w fun e w' => e = .returned (.bool true) ∧ Below w.heap.size w w' := by
  have KA := Lib.hid (fun w => ask_nil a0 a1 a2 w)
  have KW := Lib.hid (fun w => answer_nil a0 a1 0 (.slice none 0 0) w)
  have KL := Lib.hid (fun w => alive_any w)
  have K1 := Lib.hid (fun w => due_nil a0 w)
  have K2 := Lib.hid (fun w => late_nil a0 w)
  have K3 := Lib.hid (fun w => next_nil w)
  have K4 := Lib.hid (fun w => state_nil w)
  have K5 := Lib.hid (fun w => wait_nil w)
  go_enter Try.func4, Try.ntmps4
  go_wp2_with fail
  refine (KA.out _).mono ?_
  rintro e w1 ⟨rfl, rfl⟩
  go_wp2_with fail
  refine (KW.out _).mono ?_
  rintro e w2 ⟨rfl, hb2⟩
  have H2 := Lib.hid (bel_trans hb2 (bel_alloc w2 (.cells (smp 0 0 0 0) 47)))
  clear hb2
  have KL1 := Lib.hid (KL.out (w2.alloc (.cells (smp 0 0 0 0) 47)))
  go_wp2_with fail
  refine KL1.out.mono ?_
  rintro e w3 ⟨rfl, hb3⟩
  have e1 := bel_box hb3
  have c0 : w3.cell? ⟨w2.heap.size, 0, none⟩ = some (.int .i64 0) := cell_of_row _ _ 0 _ _ _ e1.1
  have c1 : w3.cell? ⟨w2.heap.size, 1, none⟩ = some (.int .i64 0) := cell_of_row _ _ 1 _ _ _ e1.1
  have c2 : w3.cell? ⟨w2.heap.size, 2, none⟩ = some (.int .i64 0) := cell_of_row _ _ 2 _ _ _ e1.1
  have c3 : w3.cell? ⟨w2.heap.size, 3, none⟩ = some (.int .i64 0) := cell_of_row _ _ 3 _ _ _ e1.1
  have H3 := Lib.hid (bel_trans H2.out hb3)
  clear hb3 e1 KL KL1 H2
  go_wp2_with (first | (go_at_call 20; with_reducible refine (K1.out _).mono ?_; rintro e w4 ⟨rfl, rfl⟩) | (go_at_call 15; with_reducible refine (K2.out _).mono ?_; rintro e w4 ⟨rfl, rfl⟩) | (go_at_call 24; with_reducible refine (K3.out _).mono ?_; rintro e w4 ⟨rfl, rfl⟩) | (go_at_call 22; with_reducible refine (K4.out _).mono ?_; rintro e w4 ⟨rfl, rfl⟩) | (go_at_call 23; with_reducible refine (K5.out _).mono ?_; rintro e w4 ⟨rfl, rfl⟩))
  go_ret
  exact ⟨rfl, H3.out⟩
end Go.Proofs.Ytfknefpfekjnnaa
