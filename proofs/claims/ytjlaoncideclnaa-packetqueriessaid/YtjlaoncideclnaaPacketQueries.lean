/- For every cookie the statement PacketQueries returns true: what is asked is 48 bytes, and the packet that they are has version 4, mode 3, the cookie, and 0 in all else. No condition. -/
import Derived.Test.YtjlaoncideclnaaRows
import Derived.Test.YtjlaoncideclnaaBack
import Derived.Test.YtjlaoncideclnaaOpen
import Derived.WalkKit
import Derived.ProofKit
import Derived.OpenShut
import Derived.ShutString
import Derived.ChangeOld
import Derived.Below
namespace Go.Proofs.Ytjlaoncideclnaa.packetQueries
open Go.ChangeShapes Go.WideShapes Go.ChangeAt Go.RowKit
set_option linter.unusedVariables false

theorem own : ownKnob Try.prog.godebug = none := by kernel_rfl
theorem laidOut : laidOutB Try.prog = true := by kernel_rfl

set_option maxHeartbeats 1000000 in
theorem walk (a0 : Int) (w : World) (w0 : (Lit.int .u64 a0).wf = true) :
    Calls Try.prog 5 #[.int .u64 a0] w fun e w' => e = .returned (.bool true) ∧ Below w.heap.size w w' := by
  obtain ⟨b0l, b0u⟩ := bounds_u64 w0
  clear w0
  have KQ := Lib.hid (fun w => query_any a0 w b0l b0u)
  have KA := Lib.hid alive_any
  go_enter Try.func5, Try.ntmps5
  go_wp2_with fail
  refine (KQ.out _).mono ?_
  rintro e w1 ⟨g, c, rfl, hg1, hg2, hc1, hc2, hh, hb1⟩
  have KG := Lib.hid (show Calls Try.prog 14 #[.slice (some ⟨g, 0, none⟩) 48 c] w1 fun e w' => e = .returned (.tuple #[.agg #[.int .u8 0, .int .u8 4, .int .u8 3, .int .u8 0, .int .i8 0, .int .i8 0, .int .u32 0, .int .u32 0, .int .u32 0, .int .u64 0, .int .u64 0, .int .u64 0, .int .u64 a0], .int .i64 0]) ∧ Below w1.heap.size w1 w' from
    get_back (query a0) [] g 0 48 c w1 (query_in a0 b0l b0u) (query_fits a0) (fun z hz => by cases hz) (by rw [List.append_nil]; exact Pk.bytes_length _) hc1 hc2 hg2 (by rw [List.append_nil]; exact hh))
  clear hh KQ
  go_wp2_with fail
  refine KG.out.mono ?_
  rintro e w2 ⟨rfl, hb2⟩
  clear KG
  go_wp2_with fail
  refine (KA.out _).mono ?_
  rintro e w3 ⟨rfl, hb3⟩
  have hb4 := below_succ hb3
  have c0 : w3.cell? ⟨w2.heap.size, 0, none⟩ = some (.int .u8 0) := box_cell hb4 0; have c1 : w3.cell? ⟨w2.heap.size, 1, none⟩ = some (.int .u8 4) := box_cell hb4 1; have c2 : w3.cell? ⟨w2.heap.size, 2, none⟩ = some (.int .u8 3) := box_cell hb4 2; have c3 : w3.cell? ⟨w2.heap.size, 3, none⟩ = some (.int .u8 0) := box_cell hb4 3; have c4 : w3.cell? ⟨w2.heap.size, 4, none⟩ = some (.int .i8 0) := box_cell hb4 4; have c5 : w3.cell? ⟨w2.heap.size, 5, none⟩ = some (.int .i8 0) := box_cell hb4 5; have c6 : w3.cell? ⟨w2.heap.size, 6, none⟩ = some (.int .u32 0) := box_cell hb4 6; have c7 : w3.cell? ⟨w2.heap.size, 7, none⟩ = some (.int .u32 0) := box_cell hb4 7; have c8 : w3.cell? ⟨w2.heap.size, 8, none⟩ = some (.int .u32 0) := box_cell hb4 8; have c9 : w3.cell? ⟨w2.heap.size, 9, none⟩ = some (.int .u64 0) := box_cell hb4 9; have c10 : w3.cell? ⟨w2.heap.size, 10, none⟩ = some (.int .u64 0) := box_cell hb4 10; have c11 : w3.cell? ⟨w2.heap.size, 11, none⟩ = some (.int .u64 0) := box_cell hb4 11; have c12 : w3.cell? ⟨w2.heap.size, 12, none⟩ = some (.int .u64 a0) := box_cell hb4 12
  go_wp2
  go_ret
  exact ⟨rfl, hb1.trans ((hb2.mono hb1.size).trans ((below_box hb4).mono (Nat.le_trans hb1.size hb2.size)))⟩

set_option maxRecDepth 100000 in
theorem lifted (os : Os) (started : os.Started) (H : Type) (enc : TypeId × Value → H) :
    ReturnsInHanded {} Try.checked os 5 .any (Rows.packetQueriesSpec.pre6 enc Try.prog Try.f5 Rows.packetQueriesRow.domain false) (Rows.packetQueriesSpec.post enc Try.prog Try.f5 false true false false) := by
  refine returnsInHanded_of_change (C := Try.checked) own started (by kernel_rfl) Try.func5
    (ChangeSpec.witness6 (enc := enc) (C := Try.checked) false ⟨#[], #[.int .u64 0], []⟩ 8 (by kernel_rfl) (by kernel_rfl) (by kernel_rfl) (by kernel_rfl)) ?_
  intro W base args ds gs before hval0 hW hcnd _
  have hval : ∀ (j : Nat) t v, Try.f5.params[j]? = some t → args[j]? = some v → Value.okWide Try.prog W .any base t v := hval0
  have hW' := hW
  obtain ⟨p, q, hA0, hV, rfl, hfz, hnd⟩ := hW
  have hA : DataW.TrodAll enc Try.prog W 0 (fun _ => true) true Try.f5.params.toList args.toList ds p := hA0
  rw [Try.params5] at hA hval
  obtain ⟨v0, vs0, d0, ds0, p0, q0, hargs, rfl, rfl, h0, r0⟩ := trodAll_cons hA
  obtain ⟨rfl, rfl, rfl⟩ := trodAll_nil r0
  obtain rfl : args = #[v0] := by cases args; simp_all
  obtain ⟨rfl, rfl⟩ := trodVars_none hV
  obtain ⟨a0, rfl, rfl, rfl, w0⟩ := open_int Try.underlying24 (hval 0 24 v0 rfl rfl) h0
  clear hA0 hval0
  refine (walk a0 W w0).mono fun e W' ⟨he, bel⟩ => ?_
  subst he
  exact ⟨_, rfl, _, _, _, [], _, [], hW', trodAll_mk1 (shut_bool Try.underlying4 _), (trodAll_cons_mk (shut_int Try.underlying24 w0) trodAll_mk0), rfl, bel.frame _, fun h => by cases h⟩

theorem over : Rows.packetQueriesRow.holds Try.pinned (OpenSpec.ofChange Rows.packetQueriesSpec) :=
  OpenClaim.holds_of_wide 5 Try.f5 rfl rfl rfl rfl rfl rfl rfl ⟨rfl, rfl, rfl, rfl, rfl⟩ rfl rfl rfl rfl rfl (by kernel_rfl) Try.func5 (by kernel_rfl)
    (of_decide_eq_true (by kernel_rfl)) (by unfold Func.isWrapper; first | (rw [if_pos (by decide +kernel)]; kernel_rfl) | (rw [if_neg (by decide +kernel)]; exact ⟨rfl, rfl⟩))
    (fun os started H enc _ => lifted os started H enc)

theorem proved : Rows.PacketQueriesSaid :=
  over
#print axioms proved
end Go.Proofs.Ytjlaoncideclnaa.packetQueries
