/- For every number the statement SaneNames returns true: there is a name for each reason, no two the same, none empty; who changes the list that was told changes nothing. No condition. -/
import Derived.Test.YtojaliclbfijaaaRows
import Derived.Test.YtojaliclbfijaaaSeen
import Derived.Test.YtojaliclbfijaaaOpen
import Derived.WalkKit
import Derived.ProofKit
import Derived.OpenShut
import Derived.ShutString
import Derived.ChangeOld
import Derived.Below
namespace Go.Proofs.Ytojaliclbfijaaa.saneNames
open Go.ChangeShapes Go.WideShapes Go.ChangeAt Go.RowKit
set_option linter.unusedVariables false

theorem own : ownKnob Try.prog.godebug = none := by kernel_rfl
theorem laidOut : laidOutB Try.prog = true := by kernel_rfl

open Go.Maps Go.WideMaps
theorem frozen_row {w : World} {g : Nat} {cs : Array Value} {t : TypeId} (h : w.heap[g]? = some (.cells cs t (0, 0))) (j : Nat) : w.frozen? ⟨g, j, none⟩ = false := by
  simp [World.frozen?, h]
set_option maxRecDepth 100000 in
set_option maxHeartbeats 8000000 in
theorem walk (a0 : Int) (w : World) (w0 : (Lit.int .u8 a0).wf = true) :
    Calls Try.prog 7 #[.int .u8 a0] w fun e w' => e = .returned (.bool true) ∧ Below w.heap.size w w' := by
  obtain ⟨b0l, b0u⟩ := bounds_u8 w0
  clear w0
  have KA := Lib.hid alive_any
  have KN := Lib.hid names_any
  have hmm := @run_makeMap Try.prog
  obtain ⟨m, hm⟩ : ∃ m : Nat, a0 % 13 = (m : Int) := ⟨(a0 % 13).toNat, by omega⟩
  have hm13 : m < 13 := by omega
  have hmi : (m : Int) < 13 := by omega
  go_enter Try.func7, Try.ntmps7
  go_wp2_with fail
  refine (KN.out _).mono ?_
  rintro e w1 ⟨rfl, e1⟩
  have hs1 : w1.heap.size = w.heap.size + 1 := by rw [e1]; simp
  have r1 : w1.heap[w.heap.size]? = some (.cells nameCells 9) := by rw [e1]; exact heap_alloc_new w _
  have B1 : Below w.heap.size w w1 := by rw [e1]; exact (Below.refl _ _).alloc (Nat.le_refl _) _
  have R1 := Lib.hid (And.intro r1 B1)
  clear e1 r1 B1
  go_wp2_with fail
  refine (KA.out _).mono ?_
  rintro e w2 ⟨rfl, hb2⟩
  have s2 := hb2.size
  have R2 := Lib.hid (show w2.heap[w.heap.size]? = some (.cells nameCells 9) ∧ Below w.heap.size w w2 from ⟨(hb2.block _ (by omega)).trans R1.out.1, R1.out.2.trans (hb2.mono (by omega))⟩)
  clear hb2 R1
  go_wp2
  go_loopw [20] (fun i wr => ∃ n : Nat, n ≤ 13 ∧ i = .int .i64 n ∧ wr.ownsMap Try.prog 9 (plainElem (H := Unit) Try.prog 4) w2.heap.size n (seenD n) ∧ Below w2.heap.size w2 wr) (fun i _ => 13 - (intOf i).toNat)
  case atStart => exact ⟨0, by omega, rfl, World.ownsMap_made _ _ _ _, (Below.refl _ _).alloc (Nat.le_refl _) _⟩
  case round =>
    obtain ⟨n, hn, rfl, hown, hb⟩ := hrel
    have rw1 : wr.heap[w.heap.size]? = some (.cells nameCells 9) := (hb.block _ (by omega)).trans R2.out.1
    have sr := hb.size
    have OW := Lib.hid hown
    have HB := Lib.hid hb
    by_cases hlt : n < 13
    · obtain ⟨s, x1, x2, x3, x4, x5, x6⟩ := name_facts n hlt
      have m1 : wr.cell? ⟨w.heap.size, n, none⟩ = some (.string s) := (cell_of_row _ _ _ _ _ _ rw1).trans x1
      have hrun := lookup_bool hown x4 x5
      have XS := Lib.hid (And.intro x4 x6)
      clear hown hb rw1 x1 x3 x4 x5 x6
      go_wp2_with (first | (at_mapUpdate; refine wpList_mapUpdate_own _ rfl (.tmp 31) (.tmp 32) (.const (.bool true)) 44 rfl 9 4 law9 Try.underlying44 _ w2.heap.size n (seenD n) rfl OW.out (by unfold maxLen; omega) (.string s) (.bool true) _ rfl rfl (keyOf_string_mk Try.underlying9 XS.out.1) _ [] (plainElem_bool Try.underlying4 true) ?_; intro w3 hown3 hg3; have R3 := Lib.hid (And.intro hown3 hg3); clear hown3 hg3))
      go_roundw
      case rel => exact ⟨n + 1, by omega, by go_num, by rw [XS.out.2]; exact R3.out.1, HB.out.grown R3.out.2 HB.out.size (fun k hk => by cases hk; exact Nat.le_refl _)⟩
      case measure => simp [intOf]; omega
    · obtain rfl : n = 13 := by omega
      obtain ⟨s, x1, _, _, _, _, _⟩ := name_facts m hm13
      have m1 : wr.cell? ⟨w.heap.size, m, none⟩ = some (.string s) := (cell_of_row _ _ _ _ _ _ rw1).trans x1
      have f1 : wr.frozen? ⟨w.heap.size, m, none⟩ = false := frozen_row rw1 m
      have HR := Lib.hid rw1
      clear hown hb rw1 x1
      go_wp2_with fail
      refine (KN.out _).mono ?_
      rintro e w5 ⟨rfl, e5⟩
      have hs5 : w5.heap.size = wr.heap.size + 1 := by rw [e5]; simp
      have B5 : Below w.heap.size w w5 := by
        rw [e5]
        exact (((R2.out.2.trans (HB.out.mono (by omega))).setCell (p := ⟨w.heap.size, m, none⟩) (Nat.le_refl _) _).alloc (by simp; omega) _)
      have c5 : ∀ j, w5.cell? ⟨wr.heap.size, j, none⟩ = nameCells[j]? := by
        intro j
        rw [e5]
        have := heap_alloc_new (wr.setCell ⟨w.heap.size, m, none⟩ (.string { data := #[111, 116, 104, 101, 114] })) (.cells nameCells 9)
        rw [show (wr.setCell ⟨w.heap.size, m, none⟩ (.string { data := #[111, 116, 104, 101, 114] })).heap.size = wr.heap.size by simp] at this
        exact cell_of_row _ _ _ _ _ _ this
      have d5 : ∀ j, j ≠ m → w5.cell? ⟨w.heap.size, j, none⟩ = nameCells[j]? := by
        intro j hj
        rw [e5, World.cell?_alloc_lt _ _ _ (by show w.heap.size < _; simp; omega), World.cell?_setCell_other _ _ _ _ (fun e => hj (by injection e with _ e2 _; exact e2.symm))]
        exact cell_of_row _ _ _ _ _ _ HR.out
      have H5 := Lib.hid (And.intro B5 (And.intro c5 d5))
      clear e5 B5 c5 d5 m1 f1
      try rw [show (wr.setCell ⟨w.heap.size, m, none⟩ (.string { data := #[111, 116, 104, 101, 114] })).heap.size = wr.heap.size by simp]
      generalize wr.heap.size = rb at *
      go_wp2
      go_loopw [43] (fun i wx => ∃ n : Nat, n ≤ 13 ∧ i = .int .i64 n ∧ wx = w5) (fun i _ => 13 - (intOf i).toNat)
      case atStart => exact ⟨0, by omega, rfl, rfl⟩
      case round =>
        obtain ⟨n, hn, rfl, rfl⟩ := hrel
        by_cases hlt : n < 13
        · obtain ⟨t, x1, x2, x3, x4, x5, x6⟩ := name_facts n hlt
          have m1 := (H5.out.2.1 n).trans x1
          have x7 : ¬ t.toList = [111, 116, 104, 101, 114] := by intro h; rw [h] at x3; exact absurd x3 (by decide)
          clear x2 x4 x5 x6
          by_cases hnm : n = m
          · have b1 : ((n : Int) != (m : Int)) = false := by simp [hnm]
            clear hnm x1
            go_wp2
            go_roundw
            case rel => exact ⟨n + 1, by omega, by go_num, trivial⟩
            case measure => simp [intOf]; omega
          · have b1 : ((n : Int) != (m : Int)) = true := by simp; omega
            have m2 := (H5.out.2.2 n hnm).trans x1
            clear hnm x1
            go_wp2
            go_roundw
            case rel => exact ⟨n + 1, by omega, by go_num, trivial⟩
            case measure => simp [intOf]; omega
        · obtain rfl : n = 13 := by omega
          go_wp2
          go_ret
          exact ⟨rfl, H5.out.1⟩

set_option maxRecDepth 100000 in
theorem lifted (os : Os) (started : os.Started) (H : Type) (enc : TypeId × Value → H) :
    ReturnsInHanded {} Try.checked os 7 .any (Rows.saneNamesSpec.pre6 enc Try.prog Try.f7 Rows.saneNamesRow.domain false) (Rows.saneNamesSpec.post enc Try.prog Try.f7 false true false false) := by
  refine returnsInHanded_of_change (C := Try.checked) own started (by kernel_rfl) Try.func7
    (ChangeSpec.witness6 (enc := enc) (C := Try.checked) false ⟨#[], #[.int .u8 0], []⟩ 8 (by kernel_rfl) (by kernel_rfl) (by kernel_rfl) (by kernel_rfl)) ?_
  intro W base args ds gs before hval0 hW hcnd _
  have hval : ∀ (j : Nat) t v, Try.f7.params[j]? = some t → args[j]? = some v → Value.okWide Try.prog W .any base t v := hval0
  have hW' := hW
  obtain ⟨p, q, hA0, hV, rfl, hfz, hnd⟩ := hW
  have hA : DataW.TrodAll enc Try.prog W 0 (fun _ => true) true Try.f7.params.toList args.toList ds p := hA0
  rw [Try.params7] at hA hval
  obtain ⟨v0, vs0, d0, ds0, p0, q0, hargs, rfl, rfl, h0, r0⟩ := trodAll_cons hA
  obtain ⟨rfl, rfl, rfl⟩ := trodAll_nil r0
  obtain rfl : args = #[v0] := by cases args; simp_all
  obtain ⟨rfl, rfl⟩ := trodVars_none hV
  obtain ⟨a0, rfl, rfl, rfl, w0⟩ := open_int Try.underlying5 (hval 0 5 v0 rfl rfl) h0
  clear hA0 hval0
  refine (walk a0 W w0).mono fun e W' ⟨he, bel⟩ => ?_
  subst he
  exact ⟨_, rfl, _, _, _, [], _, [], hW', trodAll_mk1 (shut_bool Try.underlying4 _), (trodAll_cons_mk (shut_int Try.underlying5 w0) trodAll_mk0), rfl, bel.frame _, fun h => by cases h⟩

theorem over : Rows.saneNamesRow.holds Try.pinned (OpenSpec.ofChange Rows.saneNamesSpec) :=
  OpenClaim.holds_of_wide 7 Try.f7 rfl rfl rfl rfl rfl rfl rfl ⟨rfl, rfl, rfl, rfl, rfl⟩ rfl rfl rfl rfl rfl (by kernel_rfl) Try.func7 (by kernel_rfl)
    (of_decide_eq_true (by kernel_rfl)) (by unfold Func.isWrapper; first | (rw [if_pos (by decide +kernel)]; kernel_rfl) | (rw [if_neg (by decide +kernel)]; exact ⟨rfl, rfl⟩))
    (fun os started H enc _ => lifted os started H enc)

theorem proved : Rows.SaneNamesSaid :=
  over
#print axioms proved
end Go.Proofs.Ytojaliclbfijaaa.saneNames
