/- For all three numbers and all bytes behind the statement SaneGood returns true: what is good is the document's; it is taken if none of them is 0. No condition. -/
import Derived.Test.YtojaliclbfijaaaRows
import Derived.Test.YtojaliclbfijaaaStep
import Derived.Test.YtojaliclbfijaaaOpen
import Derived.Test.YtojaliclbfijaaaArr
import Derived.WalkKit
import Derived.ProofKit
import Derived.OpenShut
import Derived.ShutString
import Derived.ChangeOld
import Derived.Below
namespace Go.Proofs.Ytojaliclbfijaaa.saneGood
open Go.ChangeShapes Go.WideShapes Go.ChangeAt Go.RowKit
set_option linter.unusedVariables false

theorem own : ownKnob Try.prog.godebug = none := by kernel_rfl
theorem laidOut : laidOutB Try.prog = true := by kernel_rfl
theorem cells23_ : Try.prog.cellsOf 23 = 1 := by kernel_rfl
theorem cells34_ : Try.prog.cellsOf 34 = 3 := by kernel_rfl
theorem list3_ {α : Type} (l : List α) (h : l.length = 3) : ∃ x0 x1 x2, l = [x0, x1, x2] := by
  match l, h with
  | [x0, x1, x2], _ => exact ⟨x0, x1, x2, rfl⟩

def BN (w : World) (a00 a01 a02 : Int) (W : World) : Prop := Below (w.heap.size + 1) (w.alloc (.cells #[.int .u64 a00, .int .u64 a01, .int .u64 a02] 34)) W
set_option maxRecDepth 100000 in
set_option maxHeartbeats 8000000 in
theorem walk (a00 a01 a02 : Int) (A1 : Option Addr) (len1 cap1 : Nat) (z1 : List Int) (w : World) (w00 : (Lit.int .u64 a00).wf = true) (w01 : (Lit.int .u64 a01).wf = true) (w02 : (Lit.int .u64 a02).wf = true) (hz1 : Bytes w A1 len1 cap1 z1) :
    Calls Try.prog 4 #[.agg #[.int .u64 a00, .int .u64 a01, .int .u64 a02], .slice A1 len1 cap1] w fun e w' => e = .returned (.bool true) ∧ Below w.heap.size w w' := by
  obtain ⟨b00l, b00u⟩ := bounds_u64 w00
  obtain ⟨b01l, b01u⟩ := bounds_u64 w01
  obtain ⟨b02l, b02u⟩ := bounds_u64 w02
  clear w00
  clear w01
  clear w02
  have KA := Lib.hid alive_any
  have KG := Lib.hid (fun w => good_any a00 a01 a02 w ⟨b00l, b00u⟩ ⟨b01l, b01u⟩ ⟨b02l, b02u⟩)
  have KR := Lib.hid (fun w => rgood_any a00 a01 a02 w ⟨b00l, b00u⟩ ⟨b01l, b01u⟩ ⟨b02l, b02u⟩)
  have hall := hz1.2.2.2.1
  have hl1 := hz1.1
  have KL := Lib.hid (fun g o cap w h1 h2 h3 h4 => look_back (good a00 a01 a02) a00 z1 g o (48 + len1) cap w (good_in a00 a01 a02 ⟨b00l, b00u⟩ ⟨b01l, b01u⟩ ⟨b02l, b02u⟩) (good_fits a00 a01 a02) hall (by rw [List.length_append, Pk.bytes_length, hl1]) h1 h2 h3 h4)
  have gw := good_ways a00 a01 a02
  have qt := told_way (whyOf a00 (good a00 a01 a02) 0) (good a00 a01 a02)
  have HB := Lib.hid (Pk.bytes_all _ (good_in a00 a01 a02 ⟨b00l, b00u⟩ ⟨b01l, b01u⟩ ⟨b02l, b02u⟩) (good_fits a00 a01 a02))
  have HZ1 := Lib.hid hz1
  clear hz1 hall
  have LB := Lib.hid (Pk.bytes_length (good a00 a01 a02))
  generalize (good a00 a01 a02).bytes = bs at *
  obtain ⟨q, eq⟩ : ∃ q, q = told (whyOf a00 (good a00 a01 a02) 0) (good a00 a01 a02) := ⟨_, rfl⟩
  rw [← eq] at KL qt
  clear eq
  generalize whyOf a00 (good a00 a01 a02) 0 = y at *
  have GW := Lib.hid (And.intro gw qt)
  clear gw qt
  go_enter Try.func4, Try.ntmps4
  go_wp2_with fail
  refine (KG.out _).mono ?_
  rintro e w1 ⟨g, c, rfl, hg1, hg2, hc1, hc2, hh, hb1⟩
  have B1 := below_succ hb1
  have s1 : w.heap.size + 1 ≤ w1.heap.size := by have := B1.size; simp at this; omega
  have hgw : w.heap.size + 1 ≤ g := by simp at hg1; omega
  have H1 := Lib.hid hh
  clear hh hb1 hg1
  go_upto_region 2 with fail
  go_cut [30] (fun s wc => s = .bool (decide ((1000 : Int) < (len1 : Int))) ∧ BN w a00 a01 a02 wc ∧ Has wc g 0 bs ∧ g < wc.heap.size)
  case first =>
    have cv1 := run_string (w := w1.drew) (c := c) 48 LB.out (show Has w1.drew g 0 bs from H1.out)
    refine wp_region_held_drew (S := (fun W => W.cell? ⟨w.heap.size, 0, none⟩ = some (.int .u64 a00) ∧ W.cell? ⟨w.heap.size, 1, none⟩ = some (.int .u64 a01) ∧ W.cell? ⟨w.heap.size, 2, none⟩ = some (.int .u64 a02) ∧ (convert 22 9 (.slice (some ⟨g, 0, none⟩) 48 c)).run Try.prog W = .ok (.string (strOfNums bs)) W)) (by kernel_rfl) ⟨box_cell B1 0, box_cell B1 1, box_cell B1 2, cv1⟩ (fun hHeld => ?_)
    refine wpAnyH_take (i := 0) (v := ?_) rfl (by kernel_rfl) (by kernel_rfl) (by kernel_rfl) (fun _ _ _ h => h) (Or.inl ⟨by rfl, ?_⟩) (by assumption) ?_
    rotate_left
    · (intro w hSw; (try dsimp only at hSw); go_simp; try with_reducible rfl)
    refine wpAnyH_take (i := 1) (v := ?_) rfl (by kernel_rfl) (by kernel_rfl) (by kernel_rfl) (fun _ _ _ h => h) (Or.inl ⟨by rfl, ?_⟩) (by assumption) ?_
    rotate_left
    · (intro w hSw; (try dsimp only at hSw); go_simp; try with_reducible rfl)
    refine wpAnyH_take (i := 2) (v := ?_) rfl (by kernel_rfl) (by kernel_rfl) (by kernel_rfl) (fun _ _ _ h => h) (Or.inl ⟨by rfl, ?_⟩) (by assumption) ?_
    rotate_left
    · (intro w hSw; (try dsimp only at hSw); go_simp; try with_reducible rfl)
    refine wpAnyH_take (i := 3) (v := ?_) rfl (by kernel_rfl) (by kernel_rfl) (by kernel_rfl) (fun _ _ _ h => h) (Or.inl ⟨by rfl, ?_⟩) (by assumption) ?_
    rotate_left
    · (intro w hSw; (try dsimp only at hSw); go_simp; try with_reducible rfl)
    refine wpAnyH_take (i := 4) (v := ?_) rfl (by kernel_rfl) (by kernel_rfl) (by kernel_rfl) (fun _ _ _ h => h) (Or.inl ⟨by rfl, ?_⟩) (by assumption) ?_
    rotate_left
    · (intro w hSw; (try dsimp only at hSw); go_simp; try with_reducible rfl)
    refine wpAnyH_take (i := 5) (v := ?_) rfl (by kernel_rfl) (by kernel_rfl) (by kernel_rfl) (fun _ _ _ h => h) (Or.inl ⟨by rfl, ?_⟩) (by assumption) ?_
    rotate_left
    · (intro w hSw; (try dsimp only at hSw); go_simp; try with_reducible rfl)
    refine wpAnyH_take (i := 6) (v := ?_) rfl (by kernel_rfl) (by kernel_rfl) (by kernel_rfl) (fun _ _ _ h => h) (Or.inl ⟨by rfl, ?_⟩) (by assumption) ?_
    rotate_left
    · (intro w hSw; (try dsimp only at hSw); go_simp; try with_reducible rfl)
    refine wpAnyH_take (i := 7) (v := ?_) rfl (by kernel_rfl) (by kernel_rfl) (by kernel_rfl) (fun _ _ _ h => h) (Or.inl ⟨by rfl, ?_⟩) (by assumption) ?_
    rotate_left
    · (intro w hSw; (try dsimp only at hSw); go_simp; try with_reducible rfl)
    refine wpAnyH_ready (rs := [8]) (by kernel_rfl) (by simp) ?_
    refine AllReadyH.cons rfl (fun K hK => ?_) AllReadyH.nil
    go_simp
    go_at_call 14
    refine (KR.out _).mono ?_
    rintro e w2 ⟨g2, c2, rfl, hg3, hg4, hc3, hc4, hh2, hb2⟩
    have hb2' := below_of_drew hb2
    have B2 := B1.trans (hb2'.mono s1)
    have H2 := Lib.hid (has_below H1.out hg2 hb2')
    have cv2 := run_string (c := c) 48 LB.out H2.out
    have cv3 := run_string (c := c2) 48 LB.out hh2
    have hg5 : g < w2.heap.size := Nat.lt_of_lt_of_le hg2 hb2'.size
    clear hb2 hb2' hh2 hHeld
    go_wp2_with fail
    refine hK.out _ _ ⟨box_cell B2 0, box_cell B2 1, box_cell B2 2, cv2⟩ (fun hHeld => ?_)
    clear hK K
    refine wpAnyH_ready (rs := [9]) (by kernel_rfl) (by simp) ?_
    refine AllReadyH.cons rfl (fun K hK => ?_) AllReadyH.nil
    go_simp
    refine hK.out _ _ hHeld (fun _ => ?_)
    clear hK K
    refine wpAnyH_take (i := 10) (v := ?_) rfl (by kernel_rfl) (by kernel_rfl) (by kernel_rfl) (fun _ _ _ h => h) (Or.inl ⟨by rfl, ?_⟩) (by assumption) ?_
    rotate_left
    · (intro w hSw; (try dsimp only at hSw); go_simp; try with_reducible rfl)
    refine wpAnyH_take (i := 11) (v := ?_) rfl (by kernel_rfl) (by kernel_rfl) (by kernel_rfl) (fun _ _ _ h => h) (Or.inl ⟨by rfl, ?_⟩) (by assumption) ?_
    rotate_left
    · (intro w hSw; (try dsimp only at hSw); go_simp; try with_reducible rfl)
    refine wpAnyH_take (i := 12) (v := ?_) rfl (by kernel_rfl) (by kernel_rfl) (by kernel_rfl) (fun _ _ _ h => h) (Or.inl ⟨by rfl, ?_⟩) (by assumption) ?_
    rotate_left
    · (intro w hSw; (try dsimp only at hSw); go_simp; try with_reducible rfl)
    refine wpAnyH_take (i := 13) (v := ?_) rfl (by kernel_rfl) (by kernel_rfl) (by kernel_rfl) (fun _ _ _ h => h) (Or.inl ⟨by rfl, ?_⟩) (by assumption) ?_
    rotate_left
    · (intro w hSw; (try dsimp only at hSw); go_simp; try with_reducible rfl)
    refine wpAnyH_take (i := 14) (v := ?_) rfl (by kernel_rfl) (by kernel_rfl) (by kernel_rfl) (fun _ _ _ h => h) (Or.inl ⟨by rfl, ?_⟩) (by assumption) ?_
    rotate_left
    · (intro w hSw; (try dsimp only at hSw); go_simp; try with_reducible rfl)
    refine wpAnyH_take (i := 15) (v := ?_) rfl (by kernel_rfl) (by kernel_rfl) (by kernel_rfl) (fun _ _ _ h => h) (Or.inl ⟨by rfl, ?_⟩) (by assumption) ?_
    rotate_left
    · (intro w hSw; (try dsimp only at hSw); go_simp; try with_reducible rfl)
    refine wpAnyH_done (by kernel_rfl) ?_ _
    go_simp
    go_wp2_with fail
    go_meet
    exact ⟨rfl, B2, H2.out, hg5⟩
  case rest =>
    obtain ⟨rfl, Bc, Hc, hgc⟩ := hcut
    have HC := Lib.hid Hc
    have sc : w.heap.size + 1 ≤ wc.heap.size := by have := Bc.size; simp at this; omega
    clear Hc
    by_cases h1 : (1000 : Int) < (len1 : Int)
    · have d1 : decide ((1000 : Int) < (len1 : Int)) = true := by simpa using h1
      go_wp2_with fail
      refine (KA.out _).mono ?_
      rintro e w5 ⟨rfl, hb5⟩
      go_wp2
      go_ret
      exact ⟨rfl, (below_box Bc).trans (hb5.mono (by omega))⟩
    have d1 : decide ((1000 : Int) < (len1 : Int)) = false := by simpa using h1
    have hlen : len1 ≤ 1000 := by omega
    go_upto_region 4 with fail
    go_cut [6, 7] (fun s6 s7 wd => ∃ h : Nat, s6 = .pointer (some ⟨h, 0, none⟩) ∧ s7 = .int .i64 y ∧ BN w a00 a01 a02 wd ∧ (∀ j, wd.cell? ⟨h, j, none⟩ = (#[.int .u8 q.l, .int .u8 q.v, .int .u8 q.m, .int .u8 q.s, .int .i8 q.po, .int .i8 q.pr, .int .u32 q.de, .int .u32 q.di, .int .u32 q.rs, .int .u64 q.rf, .int .u64 q.og, .int .u64 q.rc, .int .u64 q.xm] : Array Value)[j]?) ∧ h < wd.heap.size)
    case first =>
      have p0 : wc.cell? ⟨w.heap.size, 0, none⟩ = some (.int .u64 a00) := box_cell Bc 0
      have p1 : wc.cell? ⟨w.heap.size, 1, none⟩ = some (.int .u64 a01) := box_cell Bc 1
      have p2 : wc.cell? ⟨w.heap.size, 2, none⟩ = some (.int .u64 a02) := box_cell Bc 2
      have Bd : Below (w.heap.size + 1) (w.alloc (.cells #[.int .u64 a00, .int .u64 a01, .int .u64 a02] 34)) wc.drew := Below.drew Bc
      have sd : w.heap.size + 1 ≤ wc.drew.heap.size := sc
      have YB : Hid (Bytes wc.drew (some ⟨g, 0, none⟩) 48 c bs) := Lib.hid ⟨LB.out, hc1, hc2, HB.out, fun _ => ⟨g, 0, rfl, hgc, HC.out⟩, fun h => by cases h⟩
      refine wp_region_held_drew (S := (fun W => W.cell? ⟨w.heap.size, 0, none⟩ = some (.int .u64 a00) ∧ W.cell? ⟨w.heap.size, 1, none⟩ = some (.int .u64 a01) ∧ W.cell? ⟨w.heap.size, 2, none⟩ = some (.int .u64 a02))) (by kernel_rfl) ⟨p0, p1, p2⟩ (fun hHeld => ?_)
      refine wpAnyH_take (i := 1) (v := ?_) rfl (by kernel_rfl) (by kernel_rfl) (by kernel_rfl) (fun _ _ _ h => h) (Or.inl ⟨by rfl, ?_⟩) (by assumption) ?_
      rotate_left
      · (intro w hSw; (try dsimp only at hSw); go_simp; try with_reducible rfl)
      refine wpAnyH_take (i := 3) (v := ?_) rfl (by kernel_rfl) (by kernel_rfl) (by kernel_rfl) (fun _ _ _ h => h) (Or.inl ⟨by rfl, ?_⟩) (by assumption) ?_
      rotate_left
      · (intro w hSw; (try dsimp only at hSw); go_simp; try with_reducible rfl)
      refine wpAnyH_take (i := 5) (v := ?_) rfl (by kernel_rfl) (by kernel_rfl) (by kernel_rfl) (fun _ _ _ h => h) (Or.inl ⟨by rfl, ?_⟩) (by assumption) ?_
      rotate_left
      · (intro w hSw; (try dsimp only at hSw); go_simp; try with_reducible rfl)
      refine wpAnyH_take (i := 6) (v := ?_) rfl (by kernel_rfl) (by kernel_rfl) (by kernel_rfl) (fun _ _ _ h => h) (Or.inl ⟨by rfl, ?_⟩) (by assumption) ?_
      rotate_left
      · (intro w hSw; (try dsimp only at hSw); go_simp; try with_reducible rfl)
      generalize wc.drew = W0 at *
      refine wpAnyH_ready (rs := [0, 11]) (by kernel_rfl) (by simp) ?_
      refine AllReadyH.cons rfl (fun K hK => ?_) <| AllReadyH.cons rfl (fun K hK => ?_) <| AllReadyH.nil
      · go_simp
        have B1 : Below (w.heap.size + 1) (w.alloc (.cells #[.int .u64 a00, .int .u64 a01, .int .u64 a02] 34)) (W0.alloc (.cells #[] 5)) := Bd.alloc sd _
        have s1 : w.heap.size + 1 ≤ (W0.alloc (.cells #[] 5)).heap.size := by simp; omega
        have L1 : Below W0.heap.size W0 (W0.alloc (.cells #[] 5)) := (Below.refl W0.heap.size W0).alloc (by simp) _
        have O1 := Lib.hid (own_empty W0 (w.heap.size + 1) sd)
        refine hK.out _ _ ⟨box_cell B1 0, box_cell B1 1, box_cell B1 2⟩ (fun _ => ?_)
        clear hK K
        refine wpAnyH_ready (rs := [2, 11]) (by kernel_rfl) (by simp) ?_
        refine AllReadyH.cons rfl (fun K hK => ?_) <| AllReadyH.cons rfl (fun K hK => ?_) <| AllReadyH.nil
        · refine step_append_came (a0 := w.alloc (.cells #[.int .u64 a00, .int .u64 a01, .int .u64 a02] 34)) rfl (.tmp 38) (.tmp 39) rfl (w.heap.size + 1) (Value.slice (some ⟨W0.heap.size, 0, none⟩) 0 0) [] rfl O1.out (some ⟨g, 0, none⟩) 48 c bs rfl (bytes_below YB.out L1) (by simp) s1 B1 ?_
          intro v3 w3 hown3 hb3 hst3
          rw [List.nil_append] at hown3
          have O2 := Lib.hid hown3
          have B2 : Below (w.heap.size + 1) (w.alloc (.cells #[.int .u64 a00, .int .u64 a01, .int .u64 a02] 34)) w3 := hb3
          have s2 : w.heap.size + 1 ≤ w3.heap.size := by have := hb3.size; simp at this; omega
          clear hown3 hb3 hst3
          refine hK.out _ _ ⟨box_cell B2 0, box_cell B2 1, box_cell B2 2⟩ (fun _ => ?_)
          clear hK K
          refine wpAnyH_ready (rs := [4, 11]) (by kernel_rfl) (by simp) ?_
          refine AllReadyH.cons rfl (fun K hK => ?_) <| AllReadyH.cons rfl (fun K hK => ?_) <| AllReadyH.nil
          · refine step_append_came (a0 := w.alloc (.cells #[.int .u64 a00, .int .u64 a01, .int .u64 a02] 34)) rfl (.tmp 40) (.tmp 41) rfl (w.heap.size + 1) v3 bs rfl O2.out A1 len1 cap1 z1 rfl (bytes_below HZ1.out (below_box B2)) (by rw [LB.out]; omega) s2 B2 ?_
            intro v4 w4 hown4 hb4 hst4
            have B3 : Below (w.heap.size + 1) (w.alloc (.cells #[.int .u64 a00, .int .u64 a01, .int .u64 a02] 34)) w4 := hb4
            have s3 : w.heap.size + 1 ≤ w4.heap.size := by have := hb4.size; simp at this; omega
            clear hst4
            obtain ⟨g4, c4, ev4, hg4, hg5, hc4, hc5, hh4⟩ := own_form (n := 48 + len1) hown4 (by rw [List.length_append, LB.out, hl1]) (by omega)
            subst ev4
            have H4 := Lib.hid hh4
            clear hown4 hb4 hh4
            refine hK.out _ _ ⟨box_cell B3 0, box_cell B3 1, box_cell B3 2⟩ (fun _ => ?_)
            clear hK K
            refine wpAnyH_ready (rs := [7, 11]) (by kernel_rfl) (by simp) ?_
            refine AllReadyH.cons rfl (fun K hK => ?_) <| AllReadyH.cons rfl (fun K hK => ?_) <| AllReadyH.nil
            · go_simp
              go_at_call 8
              refine (KL.out g4 0 c4 _ hc4 hc5 hg5 H4.out).mono ?_
              rintro e w5 ⟨rfl, hb5⟩
              have B4 : Below (w.heap.size + 1) (w.alloc (.cells #[.int .u64 a00, .int .u64 a01, .int .u64 a02] 34)) w5 := B3.trans (hb5.mono s3)
              have s4 : w.heap.size + 1 ≤ w5.heap.size := Nat.le_trans s3 hb5.size
              clear hb5
              go_wp2_with fail
              refine hK.out _ _ ⟨box_cell B4 0, box_cell B4 1, box_cell B4 2⟩ (fun _ => ?_)
              clear hK K
              refine wpAnyH_take (i := 8) (v := ?_) rfl (by kernel_rfl) (by kernel_rfl) (by kernel_rfl) (fun _ _ _ h => h) (Or.inl ⟨by rfl, ?_⟩) (by assumption) ?_
              rotate_left
              · (intro w hSw; (try dsimp only at hSw); go_simp; try with_reducible rfl)
              refine wpAnyH_take (i := 9) (v := ?_) rfl (by kernel_rfl) (by kernel_rfl) (by kernel_rfl) (fun _ _ _ h => h) (Or.inl ⟨by rfl, ?_⟩) (by assumption) ?_
              rotate_left
              · (intro w hSw; (try dsimp only at hSw); go_simp; try with_reducible rfl)
              refine wpAnyH_take (i := 10) (v := ?_) rfl (by kernel_rfl) (by kernel_rfl) (by kernel_rfl) (fun _ _ _ h => h) (Or.inl ⟨by rfl, ?_⟩) (by assumption) ?_
              rotate_left
              · (intro w hSw; (try dsimp only at hSw); go_simp; try with_reducible rfl)
              refine wpAnyH_ready (rs := [11]) (by kernel_rfl) (by simp) ?_
              refine AllReadyH.cons rfl (fun K hK => ?_) <| AllReadyH.nil
              go_simp
              have B5 : Below (w.heap.size + 1) (w.alloc (.cells #[.int .u64 a00, .int .u64 a01, .int .u64 a02] 34)) (w5.alloc (.cells #[.int .u8 0, .int .u8 0, .int .u8 0, .int .u8 0, .int .i8 0, .int .i8 0, .int .u32 0, .int .u32 0, .int .u32 0, .int .u64 0, .int .u64 0, .int .u64 0, .int .u64 0] 27)) := B4.alloc s4 _
              have s5 : w.heap.size + 1 ≤ (w5.alloc (.cells #[.int .u8 0, .int .u8 0, .int .u8 0, .int .u8 0, .int .i8 0, .int .i8 0, .int .u32 0, .int .u32 0, .int .u32 0, .int .u64 0, .int .u64 0, .int .u64 0, .int .u64 0] 27)).heap.size := by simp; omega
              have es5 : w5.heap.size = w5.heap.size := by simp
              have Z5 : (w5.alloc (.cells #[.int .u8 0, .int .u8 0, .int .u8 0, .int .u8 0, .int .i8 0, .int .i8 0, .int .u32 0, .int .u32 0, .int .u32 0, .int .u64 0, .int .u64 0, .int .u64 0, .int .u64 0] 27)).heap[w5.heap.size]? = some (.cells #[.int .u8 0, .int .u8 0, .int .u8 0, .int .u8 0, .int .i8 0, .int .i8 0, .int .u32 0, .int .u32 0, .int .u32 0, .int .u64 0, .int .u64 0, .int .u64 0, .int .u64 0] 27) := by have := heap_alloc_new w5 (.cells #[.int .u8 0, .int .u8 0, .int .u8 0, .int .u8 0, .int .i8 0, .int .i8 0, .int .u32 0, .int .u32 0, .int .u32 0, .int .u64 0, .int .u64 0, .int .u64 0, .int .u64 0] 27); rw [es5] at this; exact this
              have ge5 : w.heap.size + 1 ≤ w5.heap.size := by omega
              clear es5
              refine hK.out _ _ ⟨box_cell B5 0, box_cell B5 1, box_cell B5 2⟩ (fun _ => ?_)
              clear hK K
              refine wpAnyH_ready (rs := [12]) (by kernel_rfl) (by simp) ?_
              refine AllReadyH.cons rfl (fun K hK => ?_) <| AllReadyH.nil
              rw [if_pos (by rfl)]
              refine wp_store_row 27 (.tmp 6) (.tmp 46) rfl (w5.heap.size) #[.int .u8 q.l, .int .u8 q.v, .int .u8 q.m, .int .u8 q.s, .int .i8 q.po, .int .i8 q.pr, .int .u32 q.de, .int .u32 q.di, .int .u32 q.rs, .int .u64 q.rf, .int .u64 q.og, .int .u64 q.rc, .int .u64 q.xm] rfl rfl 27 _ Z5 info27 rfl (one13 q) ?_
              have B6 := below_setRow B5 ge5 #[.int .u8 q.l, .int .u8 q.v, .int .u8 q.m, .int .u8 q.s, .int .i8 q.po, .int .i8 q.pr, .int .u32 q.de, .int .u32 q.di, .int .u32 q.rs, .int .u64 q.rf, .int .u64 q.og, .int .u64 q.rc, .int .u64 q.xm]
              refine hK.out _ _ ⟨box_cell B6 0, box_cell B6 1, box_cell B6 2⟩ (fun _ => ?_)
              clear hK K
              refine wpAnyH_take (i := 13) (v := ?_) rfl (by kernel_rfl) (by kernel_rfl) (by kernel_rfl) (fun _ _ _ h => h) (Or.inl ⟨by rfl, ?_⟩) (by assumption) ?_
              rotate_left
              · (intro w hSw; (try dsimp only at hSw); go_simp; try with_reducible rfl)
              refine wpAnyH_done (by kernel_rfl) ?_ _
              go_simp
              go_wp2_with fail
              go_meet
              exact ⟨w5.heap.size, rfl, rfl, B6, fun j => cell_setRow_same _ _ j _ _ 27 _ Z5, by rw [setRow_size]; exact heap_lt Z5⟩
            · go_simp
              have B7 : Below (w.heap.size + 1) (w.alloc (.cells #[.int .u64 a00, .int .u64 a01, .int .u64 a02] 34)) (w4.alloc (.cells #[.int .u8 0, .int .u8 0, .int .u8 0, .int .u8 0, .int .i8 0, .int .i8 0, .int .u32 0, .int .u32 0, .int .u32 0, .int .u64 0, .int .u64 0, .int .u64 0, .int .u64 0] 27)) := B3.alloc s3 _
              have s7 : w.heap.size + 1 ≤ (w4.alloc (.cells #[.int .u8 0, .int .u8 0, .int .u8 0, .int .u8 0, .int .i8 0, .int .i8 0, .int .u32 0, .int .u32 0, .int .u32 0, .int .u64 0, .int .u64 0, .int .u64 0, .int .u64 0] 27)).heap.size := by simp; omega
              have es7 : w4.heap.size = w4.heap.size := by simp
              have Z7 : (w4.alloc (.cells #[.int .u8 0, .int .u8 0, .int .u8 0, .int .u8 0, .int .i8 0, .int .i8 0, .int .u32 0, .int .u32 0, .int .u32 0, .int .u64 0, .int .u64 0, .int .u64 0, .int .u64 0] 27)).heap[w4.heap.size]? = some (.cells #[.int .u8 0, .int .u8 0, .int .u8 0, .int .u8 0, .int .i8 0, .int .i8 0, .int .u32 0, .int .u32 0, .int .u32 0, .int .u64 0, .int .u64 0, .int .u64 0, .int .u64 0] 27) := by have := heap_alloc_new w4 (.cells #[.int .u8 0, .int .u8 0, .int .u8 0, .int .u8 0, .int .i8 0, .int .i8 0, .int .u32 0, .int .u32 0, .int .u32 0, .int .u64 0, .int .u64 0, .int .u64 0, .int .u64 0] 27); rw [es7] at this; exact this
              have ge7 : w.heap.size + 1 ≤ w4.heap.size := by omega
              have H7 : Has (w4.alloc (.cells #[.int .u8 0, .int .u8 0, .int .u8 0, .int .u8 0, .int .i8 0, .int .i8 0, .int .u32 0, .int .u32 0, .int .u32 0, .int .u64 0, .int .u64 0, .int .u64 0, .int .u64 0] 27)) g4 0 (bs ++ z1) := has_keep (w := w4) hg5 (fun p hp => World.cell?_alloc_lt _ _ _ hp) H4.out
              have hg7 : g4 < (w4.alloc (.cells #[.int .u8 0, .int .u8 0, .int .u8 0, .int .u8 0, .int .i8 0, .int .i8 0, .int .u32 0, .int .u32 0, .int .u32 0, .int .u64 0, .int .u64 0, .int .u64 0, .int .u64 0] 27)).heap.size := by simp; omega
              clear es7
              refine hK.out _ _ ⟨box_cell B7 0, box_cell B7 1, box_cell B7 2⟩ (fun _ => ?_)
              clear hK K
              refine wpAnyH_ready (rs := [7]) (by kernel_rfl) (by simp) ?_
              refine AllReadyH.cons rfl (fun K hK => ?_) <| AllReadyH.nil
              go_simp
              go_at_call 8
              refine (KL.out g4 0 c4 _ hc4 hc5 hg7 H7).mono ?_
              rintro e w5 ⟨rfl, hb5⟩
              have B8 : Below (w.heap.size + 1) (w.alloc (.cells #[.int .u64 a00, .int .u64 a01, .int .u64 a02] 34)) w5 := B7.trans (hb5.mono s7)
              have s8 : w.heap.size + 1 ≤ w5.heap.size := Nat.le_trans s7 hb5.size
              have Z8 : w5.heap[w4.heap.size]? = some (.cells #[.int .u8 0, .int .u8 0, .int .u8 0, .int .u8 0, .int .i8 0, .int .i8 0, .int .u32 0, .int .u32 0, .int .u32 0, .int .u64 0, .int .u64 0, .int .u64 0, .int .u64 0] 27) := (hb5.block _ (heap_lt Z7)).trans Z7
              clear hb5
              go_wp2_with fail
              refine hK.out _ _ ⟨box_cell B8 0, box_cell B8 1, box_cell B8 2⟩ (fun _ => ?_)
              clear hK K
              refine wpAnyH_take (i := 8) (v := ?_) rfl (by kernel_rfl) (by kernel_rfl) (by kernel_rfl) (fun _ _ _ h => h) (Or.inl ⟨by rfl, ?_⟩) (by assumption) ?_
              rotate_left
              · (intro w hSw; (try dsimp only at hSw); go_simp; try with_reducible rfl)
              refine wpAnyH_take (i := 9) (v := ?_) rfl (by kernel_rfl) (by kernel_rfl) (by kernel_rfl) (fun _ _ _ h => h) (Or.inl ⟨by rfl, ?_⟩) (by assumption) ?_
              rotate_left
              · (intro w hSw; (try dsimp only at hSw); go_simp; try with_reducible rfl)
              refine wpAnyH_take (i := 10) (v := ?_) rfl (by kernel_rfl) (by kernel_rfl) (by kernel_rfl) (fun _ _ _ h => h) (Or.inl ⟨by rfl, ?_⟩) (by assumption) ?_
              rotate_left
              · (intro w hSw; (try dsimp only at hSw); go_simp; try with_reducible rfl)
              refine wpAnyH_ready (rs := [12]) (by kernel_rfl) (by simp) ?_
              refine AllReadyH.cons rfl (fun K hK => ?_) <| AllReadyH.nil
              rw [if_pos (by rfl)]
              refine wp_store_row 27 (.tmp 6) (.tmp 46) rfl (w4.heap.size) #[.int .u8 q.l, .int .u8 q.v, .int .u8 q.m, .int .u8 q.s, .int .i8 q.po, .int .i8 q.pr, .int .u32 q.de, .int .u32 q.di, .int .u32 q.rs, .int .u64 q.rf, .int .u64 q.og, .int .u64 q.rc, .int .u64 q.xm] rfl rfl 27 _ Z8 info27 rfl (one13 q) ?_
              have B9 := below_setRow B8 ge7 #[.int .u8 q.l, .int .u8 q.v, .int .u8 q.m, .int .u8 q.s, .int .i8 q.po, .int .i8 q.pr, .int .u32 q.de, .int .u32 q.di, .int .u32 q.rs, .int .u64 q.rf, .int .u64 q.og, .int .u64 q.rc, .int .u64 q.xm]
              refine hK.out _ _ ⟨box_cell B9 0, box_cell B9 1, box_cell B9 2⟩ (fun _ => ?_)
              clear hK K
              refine wpAnyH_take (i := 13) (v := ?_) rfl (by kernel_rfl) (by kernel_rfl) (by kernel_rfl) (fun _ _ _ h => h) (Or.inl ⟨by rfl, ?_⟩) (by assumption) ?_
              rotate_left
              · (intro w hSw; (try dsimp only at hSw); go_simp; try with_reducible rfl)
              refine wpAnyH_done (by kernel_rfl) ?_ _
              go_simp
              go_wp2_with fail
              go_meet
              exact ⟨w4.heap.size, rfl, rfl, B9, fun j => cell_setRow_same _ _ j _ _ 27 _ Z8, by rw [setRow_size]; exact heap_lt Z8⟩
          · go_simp
            have B10 : Below (w.heap.size + 1) (w.alloc (.cells #[.int .u64 a00, .int .u64 a01, .int .u64 a02] 34)) (w3.alloc (.cells #[.int .u8 0, .int .u8 0, .int .u8 0, .int .u8 0, .int .i8 0, .int .i8 0, .int .u32 0, .int .u32 0, .int .u32 0, .int .u64 0, .int .u64 0, .int .u64 0, .int .u64 0] 27)) := B2.alloc s2 _
            have s10 : w.heap.size + 1 ≤ (w3.alloc (.cells #[.int .u8 0, .int .u8 0, .int .u8 0, .int .u8 0, .int .i8 0, .int .i8 0, .int .u32 0, .int .u32 0, .int .u32 0, .int .u64 0, .int .u64 0, .int .u64 0, .int .u64 0] 27)).heap.size := by simp; omega
            have es10 : w3.heap.size = w3.heap.size := by simp
            have Z10 : (w3.alloc (.cells #[.int .u8 0, .int .u8 0, .int .u8 0, .int .u8 0, .int .i8 0, .int .i8 0, .int .u32 0, .int .u32 0, .int .u32 0, .int .u64 0, .int .u64 0, .int .u64 0, .int .u64 0] 27)).heap[w3.heap.size]? = some (.cells #[.int .u8 0, .int .u8 0, .int .u8 0, .int .u8 0, .int .i8 0, .int .i8 0, .int .u32 0, .int .u32 0, .int .u32 0, .int .u64 0, .int .u64 0, .int .u64 0, .int .u64 0] 27) := by have := heap_alloc_new w3 (.cells #[.int .u8 0, .int .u8 0, .int .u8 0, .int .u8 0, .int .i8 0, .int .i8 0, .int .u32 0, .int .u32 0, .int .u32 0, .int .u64 0, .int .u64 0, .int .u64 0, .int .u64 0] 27); rw [es10] at this; exact this
            have ge10 : w.heap.size + 1 ≤ w3.heap.size := by omega
            have N10 : v3.ownBlock ≠ some (w3.heap.size) := fun he => by have := (World.ownsRow.lt O2.out _ he).2; omega
            have O10 := Lib.hid (World.ownsRow.alloc O2.out (.cells #[.int .u8 0, .int .u8 0, .int .u8 0, .int .u8 0, .int .i8 0, .int .i8 0, .int .u32 0, .int .u32 0, .int .u32 0, .int .u64 0, .int .u64 0, .int .u64 0, .int .u64 0] 27))
            clear es10
            refine hK.out _ _ ⟨box_cell B10 0, box_cell B10 1, box_cell B10 2⟩ (fun _ => ?_)
            clear hK K
            refine wpAnyH_ready (rs := [4]) (by kernel_rfl) (by simp) ?_
            refine AllReadyH.cons rfl (fun K hK => ?_) <| AllReadyH.nil
            refine step_append_came (a0 := w.alloc (.cells #[.int .u64 a00, .int .u64 a01, .int .u64 a02] 34)) rfl (.tmp 40) (.tmp 41) rfl (w.heap.size + 1) v3 bs rfl O10.out A1 len1 cap1 z1 rfl (bytes_below HZ1.out (below_box B10)) (by rw [LB.out]; omega) s10 B10 ?_
            intro v4 w4 hown4 hb4 hst4
            have B11 : Below (w.heap.size + 1) (w.alloc (.cells #[.int .u64 a00, .int .u64 a01, .int .u64 a02] 34)) w4 := hb4
            have s11 : w.heap.size + 1 ≤ w4.heap.size := by have := hb4.size; simp at this; omega
            obtain ⟨Z11, _⟩ := hst4 _ _ Z10 N10
            clear hst4
            obtain ⟨g4, c4, ev4, hg4, hg5, hc4, hc5, hh4⟩ := own_form (n := 48 + len1) hown4 (by rw [List.length_append, LB.out, hl1]) (by omega)
            subst ev4
            have H4 := Lib.hid hh4
            clear hown4 hb4 hh4
            refine hK.out _ _ ⟨box_cell B11 0, box_cell B11 1, box_cell B11 2⟩ (fun _ => ?_)
            clear hK K
            refine wpAnyH_ready (rs := [7]) (by kernel_rfl) (by simp) ?_
            refine AllReadyH.cons rfl (fun K hK => ?_) <| AllReadyH.nil
            go_simp
            go_at_call 8
            refine (KL.out g4 0 c4 _ hc4 hc5 hg5 H4.out).mono ?_
            rintro e w5 ⟨rfl, hb5⟩
            have B12 : Below (w.heap.size + 1) (w.alloc (.cells #[.int .u64 a00, .int .u64 a01, .int .u64 a02] 34)) w5 := B11.trans (hb5.mono s11)
            have s12 : w.heap.size + 1 ≤ w5.heap.size := Nat.le_trans s11 hb5.size
            have Z12 : w5.heap[w3.heap.size]? = some (.cells #[.int .u8 0, .int .u8 0, .int .u8 0, .int .u8 0, .int .i8 0, .int .i8 0, .int .u32 0, .int .u32 0, .int .u32 0, .int .u64 0, .int .u64 0, .int .u64 0, .int .u64 0] 27) := (hb5.block _ (heap_lt Z11)).trans Z11
            clear hb5
            go_wp2_with fail
            refine hK.out _ _ ⟨box_cell B12 0, box_cell B12 1, box_cell B12 2⟩ (fun _ => ?_)
            clear hK K
            refine wpAnyH_take (i := 8) (v := ?_) rfl (by kernel_rfl) (by kernel_rfl) (by kernel_rfl) (fun _ _ _ h => h) (Or.inl ⟨by rfl, ?_⟩) (by assumption) ?_
            rotate_left
            · (intro w hSw; (try dsimp only at hSw); go_simp; try with_reducible rfl)
            refine wpAnyH_take (i := 9) (v := ?_) rfl (by kernel_rfl) (by kernel_rfl) (by kernel_rfl) (fun _ _ _ h => h) (Or.inl ⟨by rfl, ?_⟩) (by assumption) ?_
            rotate_left
            · (intro w hSw; (try dsimp only at hSw); go_simp; try with_reducible rfl)
            refine wpAnyH_take (i := 10) (v := ?_) rfl (by kernel_rfl) (by kernel_rfl) (by kernel_rfl) (fun _ _ _ h => h) (Or.inl ⟨by rfl, ?_⟩) (by assumption) ?_
            rotate_left
            · (intro w hSw; (try dsimp only at hSw); go_simp; try with_reducible rfl)
            refine wpAnyH_ready (rs := [12]) (by kernel_rfl) (by simp) ?_
            refine AllReadyH.cons rfl (fun K hK => ?_) <| AllReadyH.nil
            rw [if_pos (by rfl)]
            refine wp_store_row 27 (.tmp 6) (.tmp 46) rfl (w3.heap.size) #[.int .u8 q.l, .int .u8 q.v, .int .u8 q.m, .int .u8 q.s, .int .i8 q.po, .int .i8 q.pr, .int .u32 q.de, .int .u32 q.di, .int .u32 q.rs, .int .u64 q.rf, .int .u64 q.og, .int .u64 q.rc, .int .u64 q.xm] rfl rfl 27 _ Z12 info27 rfl (one13 q) ?_
            have B13 := below_setRow B12 ge10 #[.int .u8 q.l, .int .u8 q.v, .int .u8 q.m, .int .u8 q.s, .int .i8 q.po, .int .i8 q.pr, .int .u32 q.de, .int .u32 q.di, .int .u32 q.rs, .int .u64 q.rf, .int .u64 q.og, .int .u64 q.rc, .int .u64 q.xm]
            refine hK.out _ _ ⟨box_cell B13 0, box_cell B13 1, box_cell B13 2⟩ (fun _ => ?_)
            clear hK K
            refine wpAnyH_take (i := 13) (v := ?_) rfl (by kernel_rfl) (by kernel_rfl) (by kernel_rfl) (fun _ _ _ h => h) (Or.inl ⟨by rfl, ?_⟩) (by assumption) ?_
            rotate_left
            · (intro w hSw; (try dsimp only at hSw); go_simp; try with_reducible rfl)
            refine wpAnyH_done (by kernel_rfl) ?_ _
            go_simp
            go_wp2_with fail
            go_meet
            exact ⟨w3.heap.size, rfl, rfl, B13, fun j => cell_setRow_same _ _ j _ _ 27 _ Z12, by rw [setRow_size]; exact heap_lt Z12⟩
        · go_simp
          have B14 : Below (w.heap.size + 1) (w.alloc (.cells #[.int .u64 a00, .int .u64 a01, .int .u64 a02] 34)) ((W0.alloc (.cells #[] 5)).alloc (.cells #[.int .u8 0, .int .u8 0, .int .u8 0, .int .u8 0, .int .i8 0, .int .i8 0, .int .u32 0, .int .u32 0, .int .u32 0, .int .u64 0, .int .u64 0, .int .u64 0, .int .u64 0] 27)) := B1.alloc s1 _
          have s14 : w.heap.size + 1 ≤ ((W0.alloc (.cells #[] 5)).alloc (.cells #[.int .u8 0, .int .u8 0, .int .u8 0, .int .u8 0, .int .i8 0, .int .i8 0, .int .u32 0, .int .u32 0, .int .u32 0, .int .u64 0, .int .u64 0, .int .u64 0, .int .u64 0] 27)).heap.size := by simp; omega
          have es14 : (W0.alloc (.cells #[] 5)).heap.size = W0.heap.size + 1 := by simp
          have Z14 : ((W0.alloc (.cells #[] 5)).alloc (.cells #[.int .u8 0, .int .u8 0, .int .u8 0, .int .u8 0, .int .i8 0, .int .i8 0, .int .u32 0, .int .u32 0, .int .u32 0, .int .u64 0, .int .u64 0, .int .u64 0, .int .u64 0] 27)).heap[W0.heap.size + 1]? = some (.cells #[.int .u8 0, .int .u8 0, .int .u8 0, .int .u8 0, .int .i8 0, .int .i8 0, .int .u32 0, .int .u32 0, .int .u32 0, .int .u64 0, .int .u64 0, .int .u64 0, .int .u64 0] 27) := by have := heap_alloc_new (W0.alloc (.cells #[] 5)) (.cells #[.int .u8 0, .int .u8 0, .int .u8 0, .int .u8 0, .int .i8 0, .int .i8 0, .int .u32 0, .int .u32 0, .int .u32 0, .int .u64 0, .int .u64 0, .int .u64 0, .int .u64 0] 27); rw [es14] at this; exact this
          have ge14 : w.heap.size + 1 ≤ W0.heap.size + 1 := by omega
          have L14 : Below W0.heap.size W0 ((W0.alloc (.cells #[] 5)).alloc (.cells #[.int .u8 0, .int .u8 0, .int .u8 0, .int .u8 0, .int .i8 0, .int .i8 0, .int .u32 0, .int .u32 0, .int .u32 0, .int .u64 0, .int .u64 0, .int .u64 0, .int .u64 0] 27)) := L1.alloc (by simp) _
          have N14 : (Value.slice (some ⟨W0.heap.size, 0, none⟩) 0 0).ownBlock ≠ some (W0.heap.size + 1) := fun he => by have := (World.ownsRow.lt O1.out _ he).2; omega
          have O14 := Lib.hid (World.ownsRow.alloc O1.out (.cells #[.int .u8 0, .int .u8 0, .int .u8 0, .int .u8 0, .int .i8 0, .int .i8 0, .int .u32 0, .int .u32 0, .int .u32 0, .int .u64 0, .int .u64 0, .int .u64 0, .int .u64 0] 27))
          clear es14
          refine hK.out _ _ ⟨box_cell B14 0, box_cell B14 1, box_cell B14 2⟩ (fun _ => ?_)
          clear hK K
          refine wpAnyH_ready (rs := [2]) (by kernel_rfl) (by simp) ?_
          refine AllReadyH.cons rfl (fun K hK => ?_) <| AllReadyH.nil
          refine step_append_came (a0 := w.alloc (.cells #[.int .u64 a00, .int .u64 a01, .int .u64 a02] 34)) rfl (.tmp 38) (.tmp 39) rfl (w.heap.size + 1) (Value.slice (some ⟨W0.heap.size, 0, none⟩) 0 0) [] rfl O14.out (some ⟨g, 0, none⟩) 48 c bs rfl (bytes_below YB.out L14) (by simp) s14 B14 ?_
          intro v3 w3 hown3 hb3 hst3
          rw [List.nil_append] at hown3
          have O15 := Lib.hid hown3
          have B15 : Below (w.heap.size + 1) (w.alloc (.cells #[.int .u64 a00, .int .u64 a01, .int .u64 a02] 34)) w3 := hb3
          have s15 : w.heap.size + 1 ≤ w3.heap.size := by have := hb3.size; simp at this; omega
          obtain ⟨Z15, N15⟩ := hst3 _ _ Z14 N14
          clear hown3 hb3 hst3
          refine hK.out _ _ ⟨box_cell B15 0, box_cell B15 1, box_cell B15 2⟩ (fun _ => ?_)
          clear hK K
          refine wpAnyH_ready (rs := [4]) (by kernel_rfl) (by simp) ?_
          refine AllReadyH.cons rfl (fun K hK => ?_) <| AllReadyH.nil
          refine step_append_came (a0 := w.alloc (.cells #[.int .u64 a00, .int .u64 a01, .int .u64 a02] 34)) rfl (.tmp 40) (.tmp 41) rfl (w.heap.size + 1) v3 bs rfl O15.out A1 len1 cap1 z1 rfl (bytes_below HZ1.out (below_box B15)) (by rw [LB.out]; omega) s15 B15 ?_
          intro v4 w4 hown4 hb4 hst4
          have B16 : Below (w.heap.size + 1) (w.alloc (.cells #[.int .u64 a00, .int .u64 a01, .int .u64 a02] 34)) w4 := hb4
          have s16 : w.heap.size + 1 ≤ w4.heap.size := by have := hb4.size; simp at this; omega
          obtain ⟨Z16, _⟩ := hst4 _ _ Z15 N15
          clear hst4
          obtain ⟨g4, c4, ev4, hg4, hg5, hc4, hc5, hh4⟩ := own_form (n := 48 + len1) hown4 (by rw [List.length_append, LB.out, hl1]) (by omega)
          subst ev4
          have H4 := Lib.hid hh4
          clear hown4 hb4 hh4
          refine hK.out _ _ ⟨box_cell B16 0, box_cell B16 1, box_cell B16 2⟩ (fun _ => ?_)
          clear hK K
          refine wpAnyH_ready (rs := [7]) (by kernel_rfl) (by simp) ?_
          refine AllReadyH.cons rfl (fun K hK => ?_) <| AllReadyH.nil
          go_simp
          go_at_call 8
          refine (KL.out g4 0 c4 _ hc4 hc5 hg5 H4.out).mono ?_
          rintro e w5 ⟨rfl, hb5⟩
          have B17 : Below (w.heap.size + 1) (w.alloc (.cells #[.int .u64 a00, .int .u64 a01, .int .u64 a02] 34)) w5 := B16.trans (hb5.mono s16)
          have s17 : w.heap.size + 1 ≤ w5.heap.size := Nat.le_trans s16 hb5.size
          have Z17 : w5.heap[W0.heap.size + 1]? = some (.cells #[.int .u8 0, .int .u8 0, .int .u8 0, .int .u8 0, .int .i8 0, .int .i8 0, .int .u32 0, .int .u32 0, .int .u32 0, .int .u64 0, .int .u64 0, .int .u64 0, .int .u64 0] 27) := (hb5.block _ (heap_lt Z16)).trans Z16
          clear hb5
          go_wp2_with fail
          refine hK.out _ _ ⟨box_cell B17 0, box_cell B17 1, box_cell B17 2⟩ (fun _ => ?_)
          clear hK K
          refine wpAnyH_take (i := 8) (v := ?_) rfl (by kernel_rfl) (by kernel_rfl) (by kernel_rfl) (fun _ _ _ h => h) (Or.inl ⟨by rfl, ?_⟩) (by assumption) ?_
          rotate_left
          · (intro w hSw; (try dsimp only at hSw); go_simp; try with_reducible rfl)
          refine wpAnyH_take (i := 9) (v := ?_) rfl (by kernel_rfl) (by kernel_rfl) (by kernel_rfl) (fun _ _ _ h => h) (Or.inl ⟨by rfl, ?_⟩) (by assumption) ?_
          rotate_left
          · (intro w hSw; (try dsimp only at hSw); go_simp; try with_reducible rfl)
          refine wpAnyH_take (i := 10) (v := ?_) rfl (by kernel_rfl) (by kernel_rfl) (by kernel_rfl) (fun _ _ _ h => h) (Or.inl ⟨by rfl, ?_⟩) (by assumption) ?_
          rotate_left
          · (intro w hSw; (try dsimp only at hSw); go_simp; try with_reducible rfl)
          refine wpAnyH_ready (rs := [12]) (by kernel_rfl) (by simp) ?_
          refine AllReadyH.cons rfl (fun K hK => ?_) <| AllReadyH.nil
          rw [if_pos (by rfl)]
          refine wp_store_row 27 (.tmp 6) (.tmp 46) rfl (W0.heap.size + 1) #[.int .u8 q.l, .int .u8 q.v, .int .u8 q.m, .int .u8 q.s, .int .i8 q.po, .int .i8 q.pr, .int .u32 q.de, .int .u32 q.di, .int .u32 q.rs, .int .u64 q.rf, .int .u64 q.og, .int .u64 q.rc, .int .u64 q.xm] rfl rfl 27 _ Z17 info27 rfl (one13 q) ?_
          have B18 := below_setRow B17 ge14 #[.int .u8 q.l, .int .u8 q.v, .int .u8 q.m, .int .u8 q.s, .int .i8 q.po, .int .i8 q.pr, .int .u32 q.de, .int .u32 q.di, .int .u32 q.rs, .int .u64 q.rf, .int .u64 q.og, .int .u64 q.rc, .int .u64 q.xm]
          refine hK.out _ _ ⟨box_cell B18 0, box_cell B18 1, box_cell B18 2⟩ (fun _ => ?_)
          clear hK K
          refine wpAnyH_take (i := 13) (v := ?_) rfl (by kernel_rfl) (by kernel_rfl) (by kernel_rfl) (fun _ _ _ h => h) (Or.inl ⟨by rfl, ?_⟩) (by assumption) ?_
          rotate_left
          · (intro w hSw; (try dsimp only at hSw); go_simp; try with_reducible rfl)
          refine wpAnyH_done (by kernel_rfl) ?_ _
          go_simp
          go_wp2_with fail
          go_meet
          exact ⟨W0.heap.size + 1, rfl, rfl, B18, fun j => cell_setRow_same _ _ j _ _ 27 _ Z17, by rw [setRow_size]; exact heap_lt Z17⟩
      · go_simp
        have B19 : Below (w.heap.size + 1) (w.alloc (.cells #[.int .u64 a00, .int .u64 a01, .int .u64 a02] 34)) (W0.alloc (.cells #[.int .u8 0, .int .u8 0, .int .u8 0, .int .u8 0, .int .i8 0, .int .i8 0, .int .u32 0, .int .u32 0, .int .u32 0, .int .u64 0, .int .u64 0, .int .u64 0, .int .u64 0] 27)) := Bd.alloc sd _
        have s19 : w.heap.size + 1 ≤ (W0.alloc (.cells #[.int .u8 0, .int .u8 0, .int .u8 0, .int .u8 0, .int .i8 0, .int .i8 0, .int .u32 0, .int .u32 0, .int .u32 0, .int .u64 0, .int .u64 0, .int .u64 0, .int .u64 0] 27)).heap.size := by simp; omega
        have es19 : W0.heap.size = W0.heap.size := by simp
        have Z19 : (W0.alloc (.cells #[.int .u8 0, .int .u8 0, .int .u8 0, .int .u8 0, .int .i8 0, .int .i8 0, .int .u32 0, .int .u32 0, .int .u32 0, .int .u64 0, .int .u64 0, .int .u64 0, .int .u64 0] 27)).heap[W0.heap.size]? = some (.cells #[.int .u8 0, .int .u8 0, .int .u8 0, .int .u8 0, .int .i8 0, .int .i8 0, .int .u32 0, .int .u32 0, .int .u32 0, .int .u64 0, .int .u64 0, .int .u64 0, .int .u64 0] 27) := by have := heap_alloc_new W0 (.cells #[.int .u8 0, .int .u8 0, .int .u8 0, .int .u8 0, .int .i8 0, .int .i8 0, .int .u32 0, .int .u32 0, .int .u32 0, .int .u64 0, .int .u64 0, .int .u64 0, .int .u64 0] 27); rw [es19] at this; exact this
        have ge19 : w.heap.size + 1 ≤ W0.heap.size := by omega
        have L19 : Below W0.heap.size W0 (W0.alloc (.cells #[.int .u8 0, .int .u8 0, .int .u8 0, .int .u8 0, .int .i8 0, .int .i8 0, .int .u32 0, .int .u32 0, .int .u32 0, .int .u64 0, .int .u64 0, .int .u64 0, .int .u64 0] 27)) := (Below.refl W0.heap.size W0).alloc (by simp) _
        clear es19
        refine hK.out _ _ ⟨box_cell B19 0, box_cell B19 1, box_cell B19 2⟩ (fun _ => ?_)
        clear hK K
        refine wpAnyH_ready (rs := [0]) (by kernel_rfl) (by simp) ?_
        refine AllReadyH.cons rfl (fun K hK => ?_) <| AllReadyH.nil
        go_simp
        have B20 : Below (w.heap.size + 1) (w.alloc (.cells #[.int .u64 a00, .int .u64 a01, .int .u64 a02] 34)) ((W0.alloc (.cells #[.int .u8 0, .int .u8 0, .int .u8 0, .int .u8 0, .int .i8 0, .int .i8 0, .int .u32 0, .int .u32 0, .int .u32 0, .int .u64 0, .int .u64 0, .int .u64 0, .int .u64 0] 27)).alloc (.cells #[] 5)) := B19.alloc s19 _
        have s20 : w.heap.size + 1 ≤ ((W0.alloc (.cells #[.int .u8 0, .int .u8 0, .int .u8 0, .int .u8 0, .int .i8 0, .int .i8 0, .int .u32 0, .int .u32 0, .int .u32 0, .int .u64 0, .int .u64 0, .int .u64 0, .int .u64 0] 27)).alloc (.cells #[] 5)).heap.size := by simp; omega
        have L20 : Below W0.heap.size W0 ((W0.alloc (.cells #[.int .u8 0, .int .u8 0, .int .u8 0, .int .u8 0, .int .i8 0, .int .i8 0, .int .u32 0, .int .u32 0, .int .u32 0, .int .u64 0, .int .u64 0, .int .u64 0, .int .u64 0] 27)).alloc (.cells #[] 5)) := L19.alloc (by simp) _
        have O20 := Lib.hid (own_base (own_new W0 (.cells #[.int .u8 0, .int .u8 0, .int .u8 0, .int .u8 0, .int .i8 0, .int .i8 0, .int .u32 0, .int .u32 0, .int .u32 0, .int .u64 0, .int .u64 0, .int .u64 0, .int .u64 0] 27)) (show w.heap.size + 1 ≤ W0.heap.size + 1 by omega))
        have Z20 : ((W0.alloc (.cells #[.int .u8 0, .int .u8 0, .int .u8 0, .int .u8 0, .int .i8 0, .int .i8 0, .int .u32 0, .int .u32 0, .int .u32 0, .int .u64 0, .int .u64 0, .int .u64 0, .int .u64 0] 27)).alloc (.cells #[] 5)).heap[W0.heap.size]? = some (.cells #[.int .u8 0, .int .u8 0, .int .u8 0, .int .u8 0, .int .i8 0, .int .i8 0, .int .u32 0, .int .u32 0, .int .u32 0, .int .u64 0, .int .u64 0, .int .u64 0, .int .u64 0] 27) := (Below.heap_alloc _ _ _ (by simp)).trans Z19
        have N20 : (Value.slice (some ⟨W0.heap.size + 1, 0, none⟩) 0 0).ownBlock ≠ some (W0.heap.size) := by simp [Value.ownBlock]
        refine hK.out _ _ ⟨box_cell B20 0, box_cell B20 1, box_cell B20 2⟩ (fun _ => ?_)
        clear hK K
        refine wpAnyH_ready (rs := [2]) (by kernel_rfl) (by simp) ?_
        refine AllReadyH.cons rfl (fun K hK => ?_) <| AllReadyH.nil
        refine step_append_came (a0 := w.alloc (.cells #[.int .u64 a00, .int .u64 a01, .int .u64 a02] 34)) rfl (.tmp 38) (.tmp 39) rfl (w.heap.size + 1) (Value.slice (some ⟨W0.heap.size + 1, 0, none⟩) 0 0) [] rfl O20.out (some ⟨g, 0, none⟩) 48 c bs rfl (bytes_below YB.out L20) (by simp) s20 B20 ?_
        intro v3 w3 hown3 hb3 hst3
        rw [List.nil_append] at hown3
        have O21 := Lib.hid hown3
        have B21 : Below (w.heap.size + 1) (w.alloc (.cells #[.int .u64 a00, .int .u64 a01, .int .u64 a02] 34)) w3 := hb3
        have s21 : w.heap.size + 1 ≤ w3.heap.size := by have := hb3.size; simp at this; omega
        obtain ⟨Z21, N21⟩ := hst3 _ _ Z20 N20
        clear hown3 hb3 hst3
        refine hK.out _ _ ⟨box_cell B21 0, box_cell B21 1, box_cell B21 2⟩ (fun _ => ?_)
        clear hK K
        refine wpAnyH_ready (rs := [4]) (by kernel_rfl) (by simp) ?_
        refine AllReadyH.cons rfl (fun K hK => ?_) <| AllReadyH.nil
        refine step_append_came (a0 := w.alloc (.cells #[.int .u64 a00, .int .u64 a01, .int .u64 a02] 34)) rfl (.tmp 40) (.tmp 41) rfl (w.heap.size + 1) v3 bs rfl O21.out A1 len1 cap1 z1 rfl (bytes_below HZ1.out (below_box B21)) (by rw [LB.out]; omega) s21 B21 ?_
        intro v4 w4 hown4 hb4 hst4
        have B22 : Below (w.heap.size + 1) (w.alloc (.cells #[.int .u64 a00, .int .u64 a01, .int .u64 a02] 34)) w4 := hb4
        have s22 : w.heap.size + 1 ≤ w4.heap.size := by have := hb4.size; simp at this; omega
        obtain ⟨Z22, _⟩ := hst4 _ _ Z21 N21
        clear hst4
        obtain ⟨g4, c4, ev4, hg4, hg5, hc4, hc5, hh4⟩ := own_form (n := 48 + len1) hown4 (by rw [List.length_append, LB.out, hl1]) (by omega)
        subst ev4
        have H4 := Lib.hid hh4
        clear hown4 hb4 hh4
        refine hK.out _ _ ⟨box_cell B22 0, box_cell B22 1, box_cell B22 2⟩ (fun _ => ?_)
        clear hK K
        refine wpAnyH_ready (rs := [7]) (by kernel_rfl) (by simp) ?_
        refine AllReadyH.cons rfl (fun K hK => ?_) <| AllReadyH.nil
        go_simp
        go_at_call 8
        refine (KL.out g4 0 c4 _ hc4 hc5 hg5 H4.out).mono ?_
        rintro e w5 ⟨rfl, hb5⟩
        have B23 : Below (w.heap.size + 1) (w.alloc (.cells #[.int .u64 a00, .int .u64 a01, .int .u64 a02] 34)) w5 := B22.trans (hb5.mono s22)
        have s23 : w.heap.size + 1 ≤ w5.heap.size := Nat.le_trans s22 hb5.size
        have Z23 : w5.heap[W0.heap.size]? = some (.cells #[.int .u8 0, .int .u8 0, .int .u8 0, .int .u8 0, .int .i8 0, .int .i8 0, .int .u32 0, .int .u32 0, .int .u32 0, .int .u64 0, .int .u64 0, .int .u64 0, .int .u64 0] 27) := (hb5.block _ (heap_lt Z22)).trans Z22
        clear hb5
        go_wp2_with fail
        refine hK.out _ _ ⟨box_cell B23 0, box_cell B23 1, box_cell B23 2⟩ (fun _ => ?_)
        clear hK K
        refine wpAnyH_take (i := 8) (v := ?_) rfl (by kernel_rfl) (by kernel_rfl) (by kernel_rfl) (fun _ _ _ h => h) (Or.inl ⟨by rfl, ?_⟩) (by assumption) ?_
        rotate_left
        · (intro w hSw; (try dsimp only at hSw); go_simp; try with_reducible rfl)
        refine wpAnyH_take (i := 9) (v := ?_) rfl (by kernel_rfl) (by kernel_rfl) (by kernel_rfl) (fun _ _ _ h => h) (Or.inl ⟨by rfl, ?_⟩) (by assumption) ?_
        rotate_left
        · (intro w hSw; (try dsimp only at hSw); go_simp; try with_reducible rfl)
        refine wpAnyH_take (i := 10) (v := ?_) rfl (by kernel_rfl) (by kernel_rfl) (by kernel_rfl) (fun _ _ _ h => h) (Or.inl ⟨by rfl, ?_⟩) (by assumption) ?_
        rotate_left
        · (intro w hSw; (try dsimp only at hSw); go_simp; try with_reducible rfl)
        refine wpAnyH_ready (rs := [12]) (by kernel_rfl) (by simp) ?_
        refine AllReadyH.cons rfl (fun K hK => ?_) <| AllReadyH.nil
        rw [if_pos (by rfl)]
        refine wp_store_row 27 (.tmp 6) (.tmp 46) rfl (W0.heap.size) #[.int .u8 q.l, .int .u8 q.v, .int .u8 q.m, .int .u8 q.s, .int .i8 q.po, .int .i8 q.pr, .int .u32 q.de, .int .u32 q.di, .int .u32 q.rs, .int .u64 q.rf, .int .u64 q.og, .int .u64 q.rc, .int .u64 q.xm] rfl rfl 27 _ Z23 info27 rfl (one13 q) ?_
        have B24 := below_setRow B23 ge19 #[.int .u8 q.l, .int .u8 q.v, .int .u8 q.m, .int .u8 q.s, .int .i8 q.po, .int .i8 q.pr, .int .u32 q.de, .int .u32 q.di, .int .u32 q.rs, .int .u64 q.rf, .int .u64 q.og, .int .u64 q.rc, .int .u64 q.xm]
        refine hK.out _ _ ⟨box_cell B24 0, box_cell B24 1, box_cell B24 2⟩ (fun _ => ?_)
        clear hK K
        refine wpAnyH_take (i := 13) (v := ?_) rfl (by kernel_rfl) (by kernel_rfl) (by kernel_rfl) (fun _ _ _ h => h) (Or.inl ⟨by rfl, ?_⟩) (by assumption) ?_
        rotate_left
        · (intro w hSw; (try dsimp only at hSw); go_simp; try with_reducible rfl)
        refine wpAnyH_done (by kernel_rfl) ?_ _
        go_simp
        go_wp2_with fail
        go_meet
        exact ⟨W0.heap.size, rfl, rfl, B24, fun j => cell_setRow_same _ _ j _ _ 27 _ Z23, by rw [setRow_size]; exact heap_lt Z23⟩
    case rest =>
      obtain ⟨h, rfl, rfl, Be0, Ce, hlt⟩ := hcut
      have Be : Below (w.heap.size + 1) (w.alloc (.cells #[.int .u64 a00, .int .u64 a01, .int .u64 a02] 34)) wc := Be0
      have se : w.heap.size + 1 ≤ wc.heap.size := by have := Be.size; simp at this; omega
      have CE := Lib.hid Ce
      have n0 : wc.cell? ⟨w.heap.size, 0, none⟩ = some (.int .u64 a00) := box_cell Be 0
      have n1 : wc.cell? ⟨w.heap.size, 1, none⟩ = some (.int .u64 a01) := box_cell Be 1
      have n2 : wc.cell? ⟨w.heap.size, 2, none⟩ = some (.int .u64 a02) := box_cell Be 2
      have HE := Lib.hid Be
      clear Be0 Ce Be
      rcases GW.out.1 with ⟨k0, ey⟩ | ⟨k0, r0, ey⟩ | ⟨k0, r0, x0, ey⟩ | ⟨k0, r0, x0, ey⟩
      · have t0 : (a00 == 0) = true := by simp [k0]
        subst ey
        go_wp2_with fail
        refine (KA.out _).mono ?_
        rintro e w6 ⟨rfl, hb6⟩
        go_wp2
        go_ret
        exact ⟨rfl, (below_box HE.out).trans (hb6.mono (by omega))⟩
      · have t0 : (a00 == 0) = false := by simp [k0]
        have t1 : (a01 == 0) = true := by simp [r0]
        subst ey
        go_wp2_with fail
        refine (KA.out _).mono ?_
        rintro e w6 ⟨rfl, hb6⟩
        go_wp2
        go_ret
        exact ⟨rfl, (below_box HE.out).trans (hb6.mono (by omega))⟩
      · have t0 : (a00 == 0) = false := by simp [k0]
        have t1 : (a01 == 0) = false := by simp [r0]
        have t2 : (a02 == 0) = true := by simp [x0]
        subst ey
        go_wp2_with fail
        refine (KA.out _).mono ?_
        rintro e w6 ⟨rfl, hb6⟩
        go_wp2
        go_ret
        exact ⟨rfl, (below_box HE.out).trans (hb6.mono (by omega))⟩
      · have t0 : (a00 == 0) = false := by simp [k0]
        have t1 : (a01 == 0) = false := by simp [r0]
        have t2 : (a02 == 0) = false := by simp [x0]
        subst ey
        obtain rfl : q = good a00 a01 a02 := by
          rcases GW.out.2 with h | h | h
          · exact h.2
          · exact absurd h.1 (by decide)
          · exact absurd rfl h.1
        go_wp2_with fail
        refine (KA.out _).mono ?_
        rintro e w6 ⟨rfl, hb6⟩
        have m0 : w6.cell? ⟨w.heap.size, 0, none⟩ = some (.int .u64 a00) := (hb6.cell (p := ⟨w.heap.size, 0, none⟩) (by show w.heap.size < _; omega)).trans n0
        have m1 : w6.cell? ⟨w.heap.size, 1, none⟩ = some (.int .u64 a01) := (hb6.cell (p := ⟨w.heap.size, 1, none⟩) (by show w.heap.size < _; omega)).trans n1
        have m2 : w6.cell? ⟨w.heap.size, 2, none⟩ = some (.int .u64 a02) := (hb6.cell (p := ⟨w.heap.size, 2, none⟩) (by show w.heap.size < _; omega)).trans n2
        have u0 : w6.cell? ⟨h, 10, none⟩ = some (.int .u64 a00) := (hb6.cell (p := ⟨h, 10, none⟩) hlt).trans (CE.out 10)
        have u1 : w6.cell? ⟨h, 11, none⟩ = some (.int .u64 a01) := (hb6.cell (p := ⟨h, 11, none⟩) hlt).trans (CE.out 11)
        have u2 : w6.cell? ⟨h, 12, none⟩ = some (.int .u64 a02) := (hb6.cell (p := ⟨h, 12, none⟩) hlt).trans (CE.out 12)
        have H6 := Lib.hid hb6
        clear hb6 n0 n1 n2
        go_wp2
        go_ret
        exact ⟨rfl, (below_box HE.out).trans (H6.out.mono (by omega))⟩

set_option maxRecDepth 100000 in
theorem lifted (os : Os) (started : os.Started) (H : Type) (enc : TypeId × Value → H) :
    ReturnsInHanded {} Try.checked os 4 .any (Rows.saneGoodSpec.pre6 enc Try.prog Try.f4 Rows.saneGoodRow.domain false) (Rows.saneGoodSpec.post enc Try.prog Try.f4 false true false false) := by
  refine returnsInHanded_of_change (C := Try.checked) own started (by kernel_rfl) Try.func4
    (ChangeSpec.witness6 (enc := enc) (C := Try.checked) false ⟨#[], #[.agg #[.int .u64 0, .int .u64 0, .int .u64 0], .slice none 0 0], []⟩ 8 (by kernel_rfl) (by kernel_rfl) (by kernel_rfl) (by kernel_rfl)) ?_
  intro W base args ds gs before hval0 hW hcnd _
  have hval : ∀ (j : Nat) t v, Try.f4.params[j]? = some t → args[j]? = some v → Value.okWide Try.prog W .any base t v := hval0
  have hW' := hW
  obtain ⟨p, q, hA0, hV, rfl, hfz, hnd⟩ := hW
  have hA : DataW.TrodAll enc Try.prog W 0 (fun _ => true) true Try.f4.params.toList args.toList ds p := hA0
  rw [Try.params4] at hA hval
  obtain ⟨v0, vs0, d0, ds0, p0, q0, hargs, rfl, rfl, h0, r0⟩ := trodAll_cons hA
  obtain ⟨v1, vs1, d1, ds1, p1, q1, rfl, rfl, rfl, h1, r1⟩ := trodAll_cons r0
  obtain ⟨rfl, rfl, rfl⟩ := trodAll_nil r1
  obtain rfl : args = #[v0, v1] := by cases args; simp_all
  obtain ⟨rfl, rfl⟩ := trodVars_none hV
  obtain ⟨xs0, hl0, rfl, rfl, rfl, hw0⟩ := open_ints_array Try.underlying34 Try.underlying23 cells23_ cells34_ (hval 0 34 v0 rfl rfl) h0
  obtain ⟨a00, a01, a02, rfl⟩ := list3_ xs0 hl0
  have w00 := hw0 a00 (by simp)
  have w01 := hw0 a01 (by simp)
  have w02 := hw0 a02 (by simp)
  have k1 := h1
  have lt1 : ∀ x ∈ p1, x.block < W.heap.size := by obtain ⟨m, hm⟩ := k1; exact DataW.trod_lt m _ _ _ hm
  obtain ⟨A1, len1, cap1, rfl⟩ := okWide_slice Try.underlying22 (hval 1 22 v1 rfl rfl)
  obtain ⟨z1, hz1⟩ := open_bytes h1
  clear hA0 hval0
  refine (walk a00 a01 a02 A1 len1 cap1 z1 W w00 w01 w02 hz1).mono fun e W' ⟨he, bel⟩ => ?_
  subst he
  exact ⟨_, rfl, _, _, _, [], _, [], hW', trodAll_mk1 (shut_bool Try.underlying4 _), (trodAll_cons_mk (shut_ints_array [a00, a01, a02] Try.underlying34 Try.underlying23 cells23_ cells34_ rfl hw0) (trodAll_cons_mk (Below.trod laidOut (by kernel_rfl) (of_decide_eq_true (by kernel_rfl)) k1 bel lt1) trodAll_mk0)), rfl, bel.frame _, fun h => by cases h⟩

theorem over : Rows.saneGoodRow.holds Try.pinned (OpenSpec.ofChange Rows.saneGoodSpec) :=
  OpenClaim.holds_of_wide 4 Try.f4 rfl rfl rfl rfl rfl rfl rfl ⟨rfl, rfl, rfl, rfl, rfl⟩ rfl rfl rfl rfl rfl (by kernel_rfl) Try.func4 (by kernel_rfl)
    (of_decide_eq_true (by kernel_rfl)) (by unfold Func.isWrapper; first | (rw [if_pos (by decide +kernel)]; kernel_rfl) | (rw [if_neg (by decide +kernel)]; exact ⟨rfl, rfl⟩))
    (fun os started H enc _ => lifted os started H enc)

theorem proved : Rows.SaneGoodSaid :=
  over
#print axioms proved
end Go.Proofs.Ytojaliclbfijaaa.saneGood
