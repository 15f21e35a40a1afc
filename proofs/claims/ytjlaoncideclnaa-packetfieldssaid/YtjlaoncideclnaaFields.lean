/- The statement PacketFields: its walk. -/
import Derived.Test.YtjlaoncideclnaaTurn
import Derived.Deep.DeepCutAuto
import Derived.Deep.CutBlock
import Derived.Lib.QuietBelow
namespace Go.Proofs.Ytjlaoncideclnaa
open Go.Sort Go.RowKit
set_option linter.unusedVariables false

/-- What the rounds keep. -/
def LoopRel (w : World) (p q : Pk) (g g2 : Nat) (wr : World) : Prop := Has wr g 0 p.bytes ∧ Has wr g2 0 q.bytes ∧ Below w.heap.size w wr
theorem LoopRel.drewN {w : World} {p q : Pk} {g g2 : Nat} {wr : World} (h : LoopRel w p q g g2 wr) (n : Nat) : LoopRel w p q g g2 (wr.drewN n) :=
  ⟨h.1, h.2.1, ⟨h.2.2.os, h.2.2.tape, h.2.2.output, h.2.2.size, h.2.2.block⟩⟩
theorem LoopRel.drew {w : World} {p q : Pk} {g g2 : Nat} {wr : World} (h : LoopRel w p q g g2 wr) : LoopRel w p q g g2 wr.drew :=
  ⟨h.1, h.2.1, h.2.2.drew⟩
theorem LoopRel.cells {w : World} {p q : Pk} {g g2 : Nat} {wr : World} (h : LoopRel w p q g g2 wr) (k : Nat) (hk : k < 48) : wr.cell? ⟨g, k, none⟩ = some (.int .u8 (p.bytes.getD k 0)) ∧ wr.cell? ⟨g2, k, none⟩ = some (.int .u8 (q.bytes.getD k 0)) := by
  have h1 := h.1 k (by rw [p.bytes_length]; exact hk)
  have h2 := h.2.1 k (by rw [q.bytes_length]; exact hk)
  rw [Nat.zero_add] at h1 h2
  exact ⟨h1, h2⟩
def Cut7 (p : Pk) (w1 : World) (s8 s9 : Value) (wc : World) : Prop :=
  ∃ (q : Pk) (f t : Nat), s8 = .int .i64 f ∧ s9 = .int .i64 t ∧ Turned p q f t ∧ wc = w1.alloc (.cells #[.int .u8 q.l, .int .u8 q.v, .int .u8 q.m, .int .u8 q.s, .int .i8 q.po, .int .i8 q.pr, .int .u32 q.de, .int .u32 q.di, .int .u32 q.rs, .int .u64 q.rf, .int .u64 q.og, .int .u64 q.rc, .int .u64 q.xm] 26)

set_option maxRecDepth 100000 in
set_option maxHeartbeats 4000000 in
theorem fields_ok (p0 : Pk) (a1 : Int) (w : World) (hp0 : p0.In) (hf : p0.Fits) (b1l : 0 ≤ a1) (b1u : a1 ≤ 255) :
    Calls Try.prog 7 #[.agg #[.int .u8 p0.l, .int .u8 p0.v, .int .u8 p0.m, .int .u8 p0.s, .int .i8 p0.po, .int .i8 p0.pr, .int .u32 p0.de, .int .u32 p0.di, .int .u32 p0.rs, .int .u64 p0.rf, .int .u64 p0.og, .int .u64 p0.rc, .int .u64 p0.xm], .int .u8 a1] w fun e w' => e = .returned (.bool true) ∧ Below w.heap.size w w' := by
  have KA := Lib.hid alive_any
  have KP := Lib.hid (fun w => put_ok p0 w hp0 hf)
  have TT := Lib.hid (And.intro (turned_l p0 hp0 hf) (And.intro (turned_v p0 hp0 hf) (And.intro (turned_m p0 hp0 hf) (And.intro (turned_s p0 hp0 hf) (And.intro (turned_po p0 hp0 hf) (And.intro (turned_pr p0 hp0 hf) (And.intro (turned_de p0 hp0 hf) (And.intro (turned_di p0 hp0 hf) (And.intro (turned_rs p0 hp0 hf) (And.intro (turned_og p0 hp0 hf) (turned_xm p0 hp0 hf)))))))))))
  go_enter Try.func7, Try.ntmps7
  go_wp2_with fail
  refine (KP.out _).mono ?_
  rintro e w1 ⟨g, c, rfl, hg1, hg2, hc1, hc2, hh, hb1⟩
  have B1 := below_succ hb1
  have hs1 : w.heap.size + 1 ≤ w1.heap.size := by have := B1.size; simp at this; omega
  have hlt1 : w.heap.size < w1.heap.size := by omega
  have HC := Lib.hid hh
  clear hh hb1 KP
  have c0 : w1.cell? ⟨w.heap.size, 0, none⟩ = some (.int .u8 p0.l) := box_cell B1 0; have c1 : w1.cell? ⟨w.heap.size, 1, none⟩ = some (.int .u8 p0.v) := box_cell B1 1; have c2 : w1.cell? ⟨w.heap.size, 2, none⟩ = some (.int .u8 p0.m) := box_cell B1 2; have c3 : w1.cell? ⟨w.heap.size, 3, none⟩ = some (.int .u8 p0.s) := box_cell B1 3; have c4 : w1.cell? ⟨w.heap.size, 4, none⟩ = some (.int .i8 p0.po) := box_cell B1 4; have c5 : w1.cell? ⟨w.heap.size, 5, none⟩ = some (.int .i8 p0.pr) := box_cell B1 5; have c6 : w1.cell? ⟨w.heap.size, 6, none⟩ = some (.int .u32 p0.de) := box_cell B1 6; have c7 : w1.cell? ⟨w.heap.size, 7, none⟩ = some (.int .u32 p0.di) := box_cell B1 7; have c8 : w1.cell? ⟨w.heap.size, 8, none⟩ = some (.int .u32 p0.rs) := box_cell B1 8; have c9 : w1.cell? ⟨w.heap.size, 9, none⟩ = some (.int .u64 p0.rf) := box_cell B1 9; have c10 : w1.cell? ⟨w.heap.size, 10, none⟩ = some (.int .u64 p0.og) := box_cell B1 10; have c11 : w1.cell? ⟨w.heap.size, 11, none⟩ = some (.int .u64 p0.rc) := box_cell B1 11; have c12 : w1.cell? ⟨w.heap.size, 12, none⟩ = some (.int .u64 p0.xm) := box_cell B1 12
  go_upto_block 0 with fail
  go_cut [8, 9] (fun s8 s9 wc => Cut7 p0 w1 s8 s9 wc)
  case first =>
    go_wp2
    all_goals
      go_meet
      first
        | exact ⟨_, _, _, rfl, rfl, TT.out.1, rfl⟩
        | exact ⟨_, _, _, rfl, rfl, TT.out.2.1, rfl⟩
        | exact ⟨_, _, _, rfl, rfl, TT.out.2.2.1, rfl⟩
        | exact ⟨_, _, _, rfl, rfl, TT.out.2.2.2.1, rfl⟩
        | exact ⟨_, _, _, rfl, rfl, TT.out.2.2.2.2.1, rfl⟩
        | exact ⟨_, _, _, rfl, rfl, TT.out.2.2.2.2.2.1, rfl⟩
        | exact ⟨_, _, _, rfl, rfl, TT.out.2.2.2.2.2.2.1, rfl⟩
        | exact ⟨_, _, _, rfl, rfl, TT.out.2.2.2.2.2.2.2.1, rfl⟩
        | exact ⟨_, _, _, rfl, rfl, TT.out.2.2.2.2.2.2.2.2.1, rfl⟩
        | exact ⟨_, _, _, rfl, rfl, TT.out.2.2.2.2.2.2.2.2.2.1, rfl⟩
        | exact ⟨_, _, _, rfl, rfl, TT.out.2.2.2.2.2.2.2.2.2.2, rfl⟩
  case rest =>
    obtain ⟨q, f, t, rfl, rfl, hT, rfl⟩ := hcut
    have KQ := Lib.hid (fun w => put_ok q w hT.inn hT.fits)
    have AT := Lib.hid hT.at_
    have ht48 := hT.t48
    clear hT TT c0 c1 c2 c3 c4 c5 c6 c7 c8 c9 c10 c11 c12
    go_wp2_with fail
    refine (KQ.out _).mono ?_
    rintro e w2 ⟨g2, k2, rfl, hg3, hg4, hk1, hk2, hh2, hb2⟩
    have hb3 := (Below.refl w1.heap.size w1).alloc (Nat.le_refl _) (.cells #[.int .u8 q.l, .int .u8 q.v, .int .u8 q.m, .int .u8 q.s, .int .i8 q.po, .int .i8 q.pr, .int .u32 q.de, .int .u32 q.di, .int .u32 q.rs, .int .u64 q.rf, .int .u64 q.og, .int .u64 q.rc, .int .u64 q.xm] 26)
    have B2 := hb3.trans (hb2.mono (by simp))
    have H1 := Lib.hid (has_below HC.out hg2 B2)
    have H2 := Lib.hid hh2
    have B3 := (below_box B1).trans (B2.mono (by omega))
    clear hb2 hb3 B2 HC hh2 B1 KQ
    go_wp2_with fail
    go_loopw [112] (fun i wr => ∃ k : Nat, k ≤ 48 ∧ i = .int .i64 k ∧ LoopRel w p0 q g g2 wr) (fun i _ => 48 - (intOf i).toNat)
    case atStart => exact ⟨0, by omega, rfl, H1.out, H2.out, B3⟩
    case round =>
      obtain ⟨k, hk, rfl, hR⟩ := hrel
      have HR := Lib.hid hR
      clear hR H1 H2 B3
      by_cases hlt : k < 48
      · obtain ⟨e1, e2⟩ := HR.out.cells k hlt
        have hat := AT.out k
        generalize p0.bytes.getD k 0 = x at *
        generalize q.bytes.getD k 0 = y at *
        have hk0 : (0 : Int) ≤ (k : Int) := by omega
        have hk1 : (k : Int) < 48 := by omega
        by_cases hin : f ≤ k ∧ k < t
        · have hne := hat.2 hin
          obtain ⟨i1, i2⟩ := hin
          have hb1 : (x != y) = true := by simpa using hne
          clear hat hne
          go_wp2_with fail
          go_region
          all_goals
            go_wp2
            go_roundw
            case rel => exact ⟨k + 1, by omega, by go_num, HR.out.drew⟩
            case measure => simp [intOf]; omega
        · have he : x = y := Classical.byContradiction fun h => hin (hat.1 h)
          subst he
          clear hat
          by_cases h1 : f ≤ k
          · have h2 : t ≤ k := by omega
            clear hin
            go_wp2_with fail
            go_region
            all_goals
              go_wp2
              go_roundw
              case rel => exact ⟨k + 1, by omega, by go_num, HR.out.drew⟩
              case measure => simp [intOf]; omega
          · have h2 : k < f := by omega
            clear hin h1
            go_wp2_with fail
            go_region
            all_goals
              go_wp2
              go_roundw
              case rel => exact ⟨k + 1, by omega, by go_num, HR.out.drew⟩
              case measure => simp [intOf]; omega
      · go_wp2_with fail
        refine (KA.out _).mono ?_
        rintro e w3 ⟨rfl, hb3⟩
        go_wp2
        go_ret
        exact ⟨rfl, HR.out.2.2.trans (hb3.mono HR.out.2.2.size)⟩
end Go.Proofs.Ytjlaoncideclnaa
