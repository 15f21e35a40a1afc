/- CountAdds: each number is counted, or refused, as the document has it. -/
import Derived.Test.YtfhpckglckcdjaaDoorAd
import Derived.ProofKit
import Derived.Deep.RegionHeld3
import Derived.Deep.MidRow
import Derived.Lib.QuietBelow
import Derived.BigQuiet
namespace Go.Proofs.YtfhpckglckcdjaaDoor
open Go.RowKit Go.Proofs.Lx Go.ChangeShapes Go.WideShapes

def In0 (w : World) (v : Value) : Prop := ∃ xs, NumsK .i64 w v xs
theorem open_in0 {H : Type} {enc : TypeId × Value → H} {w : World} {base b0 : Nat} {spare : Nat → Bool} {held : Bool} {v : Value} {d : DataW H} {ps : List MemPlace}
    (hv : Value.okWide Tryd.prog w .any b0 22 v) (h : DataW.Trod enc Tryd.prog w base spare held 22 v d ps) : In0 w v := open_of Tryd.underlying22 Tryd.underlying3 (by kernel_rfl) hv h
theorem regrown_ad {w wi : World} {b c : Nat} {N M : List Nat} (s : Ad w wi b c N M) (d : Nat) (os : Array Obj) : Ad w (Sort.grow (redrawn wi d) os) b c N M := s.below (below_regrown wi d os)

set_option maxRecDepth 100000 in
set_option maxHeartbeats 8000000 in
theorem walk_countAdds (v0 : Value) (w : World) (w0 : In0 w v0) (ht : Pow w) :
    Calls Tryd.prog 3 #[v0] w fun e w' => e = .returned (.bool true) ∧ Below w.heap.size w w' := by
  obtain ⟨xs, A, cap, rfl, hlc, hwf, hat⟩ := w0
  have HT := Lib.hid ht
  have HX := Lib.hid hat
  obtain ⟨L, hL⟩ : ∃ L, L = xs.length := ⟨_, rfl⟩
  have HL := Lib.hid hL
  rw [← hL] at hlc ⊢
  clear ht hat hwf hL
  go_enter Tryd.func3, Tryd.ntmps3
  go_wp2_with fail
  refine (new_any _).mono ?_
  rintro e w1 ⟨rfl, hw1⟩
  have S1 : Hid (St w w1 w.heap.size zeros) := by rw [hw1]; exact St.new w
  clear hw1
  obtain ⟨B, hB⟩ : ∃ B, B = w.heap.size := ⟨_, rfl⟩
  rw [← hB] at S1 ⊢
  have HB := Lib.hid hB
  clear hB
  go_wp2_with fail
  refine (alive_any _ (S1.out.pow HT.out)).mono ?_
  rintro e w2 ⟨rfl, h2⟩
  have S2 := Lib.hid (S1.out.below h2)
  clear h2 S1
  by_cases h1000 : (1000 : Int) < (L : Int)
  · go_wp2_with fail
    refine (alive_any _ (S2.out.pow HT.out)).mono ?_
    rintro e w3 ⟨rfl, h3⟩
    have S3 := Lib.hid (S2.out.below h3)
    clear h3 S2
    go_wp2
    go_ret
    exact ⟨rfl, by have := S3.out.bel; rw [← HB.out] at this ⊢; exact this⟩
  · have A0 := Lib.hid (show Ad w (w2.alloc (.cells (cellsN zeros) 26)) B w2.heap.size zeros zeros from ⟨S2.out.cn.below (bel_alloc _ _), heap_alloc_new _ _, S2.out.bel.alloc S2.out.bel.size _, S2.out.own, S2.out.bel.size, fun e => by have := S2.out.cn.lt; omega⟩)
    go_wp2_with fail
    obtain ⟨C, hC⟩ : ∃ C, C = w2.heap.size := ⟨_, rfl⟩
    obtain ⟨W2, hW2⟩ : ∃ W2, W2 = w2.alloc (.cells (cellsN zeros) 26) := ⟨_, rfl⟩
    have e1 : w2.alloc (.cells #[.int .i64 0, .int .i64 0, .int .i64 0, .int .i64 0, .int .i64 0, .int .i64 0, .int .i64 0, .int .i64 0, .int .i64 0, .int .i64 0, .int .i64 0, .int .i64 0, .int .i64 0] 26) = W2 := by rw [hW2]; rfl
    rw [← hW2, ← hC] at A0
    rw [e1, ← hC]
    clear e1 hW2 hC S2
    go_loopw [26] (fun i wr => ∃ (j : Nat) (N : List Nat), j ≤ L ∧ i = .int .i64 j ∧ Hid (N.length = 13 ∧ N.sum ≤ j) ∧ Hid (Ad w wr B C N N)) (fun i _ => L - (intOf i).toNat)
    case atStart => exact ⟨0, zeros, by omega, rfl, ⟨rfl, by decide⟩, A0⟩
    case round =>
      obtain ⟨j, N, hj, rfl, HN, A1⟩ := hrel
      have HF := Lib.hid (show Fit N from ⟨HN.out.1, by have := HN.out.2; omega⟩)
      by_cases hjL : j < L
      · have hj1 : (j : Int) < (L : Int) := by omega
        obtain ⟨g, o, rfl, hg, hc⟩ := HX.out (by rw [← HL.out]; omega)
        have hjx : j < xs.length := by rw [← HL.out]; exact hjL
        obtain ⟨z, hz⟩ : ∃ z, xs[j]? = some z := ⟨_, List.getElem?_eq_getElem hjx⟩
        have c0 := (A1.out.bel.cell (p := ⟨g, o + j, none⟩) hg).trans (hc j z hz)
        clear hz hjx hc HX
        have K := Lib.hid (add_ad z A1.out HF.out)
        go_wp2_with fail
        refine K.out.mono ?_
        rintro e w3 (⟨hz1, hz2, rfl, a3⟩ | ⟨hz, rfl, rfl⟩)
        · obtain ⟨i, rfl⟩ : ∃ i : Nat, z = i := ⟨z.toNat, by omega⟩
          have hi : i < 13 := by omega
          have A3 := Lib.hid (show Ad w w3 B C (bump N i) N from a3)
          have hlen := HN.out.1
          have n0 := A3.out.rw.cell i (by rw [hlen]; exact hi)
          have hfz := frozen_row A3.out.rw i
          have hwr := wrap_id (HF.out.at i)
          have hsum := bump_sum N i (by rw [hlen]; exact hi)
          have hb2 := (bump_at N i i (by rw [hlen]; exact hi)).trans (if_pos rfl)
          obtain ⟨n, hn⟩ : ∃ n, n = N.getD i 0 := ⟨_, rfl⟩
          rw [← hn] at n0 hwr hb2
          have A4 := Lib.hid (show Ad w (w3.setCell ⟨C, i, none⟩ (.int .i64 ((n : Int) + 1))) B C (bump N i) (bump N i) by rw [show ((n : Int) + 1) = ((n + 1 : Nat) : Int) by omega, hn]; exact A3.out.set i _)
          have ng1 : ¬ (i : Int) < 0 := by omega
          have ng2 : ¬ (12 : Int) < (i : Int) := by omega
          have hl2 : (bump N i).length = 13 := by rw [bump_len]; exact hlen
          clear a3 K A1 hn c0
          go_wp2_with fail
          obtain ⟨W, hW⟩ : ∃ W, W = w3.setCell ⟨C, i, none⟩ (.int .i64 ((n : Int) + 1)) := ⟨_, rfl⟩
          rw [← hW] at A4 ⊢
          obtain ⟨v, hv⟩ : ∃ v : Int, v = ((n + 1 : Nat) : Int) := ⟨_, rfl⟩
          have q0 : ∀ d os, Calls Tryd.prog 10 #[.pointer (some ⟨B, 0, none⟩), .int .i64 i] (Sort.grow (redrawn W d) os) fun e w'' => e = .returned (.int .i64 v) ∧ ∃ p : Regrown, w'' = Sort.grow (redrawn W p.d) p.os := fun d os => Calls.regrown_of (by have := of_in _ _ i _ hi hl2 (regrown_ad A4.out d os).cs; rw [hb2, ← hv] at this; exact this)
          have e0 : ∀ d os, (Sort.grow (redrawn W d) os).cell? ⟨C, i, none⟩ = some (.int .i64 v) := fun d os => by have := (regrown_ad A4.out d os).rw.cell i (by rw [hl2]; exact hi); rw [hb2, ← hv] at this; exact this
          clear hW hv n0 hfz hwr hb2 A3
          refine wp_region_quiet_below (by kernel_rfl) (by kernel_rfl) ?_
          repeat (go_big_quiet_step (first | with_reducible exact q0 _ _))
          refine wpQuiet_nil ?_
          intro w6 hw'
          have hb6 : Below W.heap.size W w6 := by
            obtain ⟨⟨dq, osq⟩, hw''⟩ := hw'
            rw [hw'']; exact below_regrown _ dq osq
          have A6 := Lib.hid (A4.out.below hb6)
          clear hw' q0 e0 hb6 A4
          go_wp2
          go_roundw
          case rel => exact ⟨j + 1, bump N i, by omega, by go_num, ⟨hl2, by have := HN.out.2; omega⟩, A6⟩
          case measure => simp [intOf]; omega
        · clear c0 K
          have K2 := Lib.hid (of_out (some ⟨B, 0, none⟩) z w3 hz)
          have hz3 : z < 0 ∨ (¬ z < 0 ∧ (12 : Int) < z) := by omega
          clear hz
          rcases hz3 with hz | ⟨hz, hz'⟩
          · go_wp2_with fail
            refine K2.out.mono ?_
            rintro e w4 ⟨rfl, rfl⟩
            go_wp2
            go_roundw
            case rel => exact ⟨j + 1, N, by omega, by go_num, ⟨HN.out.1, by have := HN.out.2; omega⟩, A1⟩
            case measure => simp [intOf]; omega
          · go_wp2_with fail
            refine K2.out.mono ?_
            rintro e w4 ⟨rfl, rfl⟩
            go_wp2
            go_roundw
            case rel => exact ⟨j + 1, N, by omega, by go_num, ⟨HN.out.1, by have := HN.out.2; omega⟩, A1⟩
            case measure => simp [intOf]; omega
      · obtain rfl : j = L := by omega
        have hlen := HF.out.len
        have hi26 : (Tryd.prog.info? 26).map (·.size) = some (cellsN N).size := by rw [cells_size, hlen]; kernel_rfl
        have HC := Lib.hid hi26
        have HXX := Lib.hid (show ∀ i : Nat, i < 13 → ∀ w, (Instr.index 26 (.agg (cellsN N)) (.int .i64 (i : Int))).run Tryd.prog w = .ok (.int .i64 (N.getD i 0 : Nat)) w from fun i hi w => run_index_cells w 26 3 13 Tryd.underlying26 Tryd.underlying3 size3 N hlen i hi .i64 _ rfl)
        have HR := Lib.hid (show ∀ i, 0 < i → i < 13 → restN N (i + 1) = restN N i + N.getD i 0 from fun i h0 hi => rest_succ N i (by rw [hlen]; exact hi) h0)
        have HS := Lib.hid (show ∀ i, restN N i ≤ 1000000000000 from fun i => Nat.le_trans (rest_le N i) HF.out.sum)
        clear hi26 hjL HX
        go_wp2_with (refine wpList_load_row rfl 26 (.tmp 4) rfl C rfl 26 (cellsN N) (0, 0) _ A1.out.rw Tryd.underlying26 rfl HC.out ?_)
        obtain ⟨cs, hcs⟩ : ∃ cs, cs = cellsN N := ⟨_, rfl⟩
        rw [← hcs] at HXX ⊢
        clear hcs HC
        go_loopw [8, 65] (fun s i wr => ∃ k : Nat, k ≤ 13 ∧ i = .int .i64 k ∧ s = .int .i64 (restN N k : Nat) ∧ Hid (Ad w wr B C N N)) (fun _ i _ => 13 - (intOf i).toNat)
        case atStart => exact ⟨0, by omega, rfl, rfl, A1⟩
        case round =>
          obtain ⟨k, hk, rfl, rfl, A2⟩ := hrel
          by_cases hk13 : k < 13
          · have x1 := HXX.out k hk13
            have hk1 : (k : Int) < 13 := by omega
            have K := Lib.hid (of_in _ _ k _ hk13 hlen A2.out.cs)
            have hrk : 0 < k → IntKind.i64.wrap ((restN N k : Int) + (N.getD k 0 : Nat)) = ((restN N (k + 1) : Nat) : Int) := fun h0 => by
              have h1 := HR.out k h0 hk13
              have h2 := HS.out (k + 1)
              rw [h1] at h2 ⊢
              exact wrap_sum h2
            have HK := Lib.hid hrk
            clear hrk
            by_cases hk0 : k = 0
            · subst hk0
              have x1 : ∀ w, (Instr.index 26 (.agg cs) (.int .i64 0)).run Tryd.prog w = .ok (.int .i64 (N.getD 0 0 : Nat)) w := x1
              obtain ⟨n, hn⟩ : ∃ n, n = N.getD 0 0 := ⟨_, rfl⟩
              rw [← hn] at x1 K
              clear hn
              go_wp2_with fail
              refine K.out.mono ?_
              rintro e w7 ⟨rfl, h7⟩
              have A7 := Lib.hid (A2.out.below h7)
              clear h7 K
              go_wp2
              go_roundw
              case rel => exact ⟨1, by omega, rfl, by rw [rest_zero, rest_one], A7⟩
              case measure => simp [intOf]
            · have hw := HK.out (by omega)
              obtain ⟨n, hn⟩ : ∃ n, n = N.getD k 0 := ⟨_, rfl⟩
              rw [← hn] at x1 K hw
              obtain ⟨r, hr⟩ : ∃ r, r = restN N k := ⟨_, rfl⟩
              rw [← hr] at hw ⊢
              have h0 : (0 : Int) < (k : Int) := by omega
              clear hn HK hr
              go_wp2_with fail
              refine K.out.mono ?_
              rintro e w7 ⟨rfl, h7⟩
              have A7 := Lib.hid (A2.out.below h7)
              clear h7 K
              go_wp2
              go_roundw
              case rel => exact ⟨k + 1, by omega, by go_num, by first | rfl | rw [hw], A7⟩
              case measure => simp [intOf]; omega
          · obtain rfl : k = 13 := by omega
            clear HXX HR HS hk13
            have q1 := Lib.hid (fun W (h : Below wr.heap.size wr W) => refused_any _ N W HF.out (A2.out.below h).cs)
            have q2 := Lib.hid (fun W (h : Below wr.heap.size wr W) => text_any _ N W HF.out (A2.out.below h).cs ((A2.out.below h).st.pow HT.out))
            have q3 := Lib.hid (show ∀ W, Calls Tryd.prog 13 #[.agg (N.map NI).toArray] W _ from fun W => rtext_any N W HF.out)
            have RF := Lib.hid (fun W (h : Below wr.heap.size wr W) => (show W.rangeAt C 0 (N.map NI) from fun j v hv => by rw [Nat.zero_add, cell_of_row _ _ _ _ _ _ (A2.out.below h).rw]; simpa [cellsN] using hv))
            have hl : (Tryd.prog.info? 26).map (·.size) = some (N.map NI).length := by rw [List.length_map, hlen]; kernel_rfl
            have hu := Tryd.underlying26
            have HBd := Lib.hid (show Below wr.heap.size wr wr.drew from (Below.refl _ _).drew)
            have HW := Lib.hid (And.intro A2.out.bel A2.out.bel.size)
            obtain ⟨cl, hcl⟩ : ∃ cl, cl = N.map NI := ⟨_, rfl⟩
            rw [← hcl] at q3 RF hl
            obtain ⟨t, ht⟩ : ∃ t, t = txtS N := ⟨_, rfl⟩
            rw [← ht] at q2 q3
            have hr : restN N 13 = refN N := rfl
            rw [hr]
            obtain ⟨r, hrr⟩ : ∃ r, r = refN N := ⟨_, rfl⟩
            rw [← hrr] at q1 ⊢
            clear hcl ht hr hrr
            go_wp2_with fail
            go_region_held3 (fun w' => w'.rangeAt C 0 cl)
              (first | with_reducible exact RF.out _ HBd.out | with_reducible exact RF.out _ M1.out | with_reducible exact RF.out _ M2.out | with_reducible exact RF.out _ M3.out)
              (first
                | (go_at_call 11; refine (q1.out _ HBd.out).mono ?_; rintro e z1 ⟨rfl, h1⟩; have M1 := Lib.hid (HBd.out.trans (h1.mono HBd.out.size)); clear h1)
                | (go_at_call 12; refine (q2.out _ M1.out).mono ?_; rintro e z2 ⟨rfl, h2⟩; have M2 := Lib.hid (M1.out.trans (h2.mono M1.out.size)); clear h2)
                | (go_at_call 13; refine (q3.out _).mono ?_; rintro e z3 ⟨rfl, h3⟩; have M3 := Lib.hid (M2.out.trans (h3.mono M2.out.size)); clear h3))
            all_goals (
              go_wp2
              go_ret
              exact ⟨rfl, HW.out.1.trans (M3.out.mono HW.out.2)⟩)
end Go.Proofs.YtfhpckglckcdjaaDoor
