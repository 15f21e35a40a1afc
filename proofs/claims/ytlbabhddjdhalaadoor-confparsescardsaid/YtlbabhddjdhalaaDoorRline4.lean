/- The document's own line, of the word slew. -/
import Derived.Test.YtlbabhddjdhalaaDoorRst
namespace Go.Proofs.YtlbabhddjdhalaaDoor
open Go.RowKit Go.Proofs.Lx

set_option maxRecDepth 100000 in
set_option maxHeartbeats 8000000 in
theorem rline_4 (r : List Bs) (st : St) (bc g n c : Nat) (w : World) (hst : Rst w bc st) (hn : n = (wSlew :: r).length) (hc : n ≤ c) (hg : g < w.heap.size) (hcell : ∀ (j : Nat) (x : Bs), (wSlew :: r)[j]? = some x → w.cell? ⟨g, j, none⟩ = some (Str x)) (hl0 : n ≤ 1000000) (hsz : ∀ x ∈ r, x.length ≤ 1000000) :
    Calls Tryd.prog 35 #[.pointer (some ⟨bc, 0, none⟩), .pointer (some ⟨bc + 1, 0, none⟩), .slice (some ⟨g, 0, none⟩) n c] w fun e w' => LinePost w bc (doL st (wSlew :: r)) e w' := by
  skip
  have hlt := hst.lt
  obtain ⟨p, hp, hpl⟩ := str_mk wSlew
  have f0 := hcell 0 wSlew rfl
  rw [hp] at f0
  have HR : Hid (n = r.length + 1) := by show _ = _; rw [hn]; simp
  obtain ⟨X, hX⟩ : ∃ X, X = w.alloc (.cells #[.string ⟨#[115, 101, 114, 118, 101, 114]⟩, .string ⟨#[113, 117, 111, 114, 117, 109]⟩, .string ⟨#[112, 111, 108, 108]⟩, .string ⟨#[100, 101, 108, 97, 121]⟩, .string ⟨#[115, 108, 101, 119]⟩] 9) := ⟨_, rfl⟩
  have HX5 : Hid (X.heap[w.heap.size]? = some (.cells fiveW 9 (0, 0))) := by show _ = _; rw [hX]; exact heap_alloc_new _ _
  have hbX : Below w.heap.size w X := by rw [hX]; exact below_alloc _ _
  have HBX := Lib.hid hbX
  have x0 : X.cell? ⟨g, 0, none⟩ = some (.string p) := (hbX.cell (p := ⟨g, 0, none⟩) hg).trans f0
  have HRS := Lib.hid (hst.below hbX (Nat.le_refl _))
  have HBN : Hid (∀ m, Below w.heap.size w (X.drewN m)) := fun m => ⟨hbX.os, hbX.tape, hbX.output, hbX.size, hbX.block⟩
  have HCE := Lib.hid hcell
  have HPL := Lib.hid hpl
  have HSZ := Lib.hid hsz
  have n2 : 0 < n := by have := HR.out; omega
  have n1 : (0 : Int) < (n : Int) := by omega
  have HBZ : Hid (∀ m, Below bc w (X.drewN m)) := fun m => (HBN.out m).mono (by omega)
  clear hn hcell hpl hsz hbX f0 hst hp
  go_enter Tryd.func35, Tryd.ntmps35
  go_wp2
  rw [← hX]
  clear hX
  go_loopw [8] (fun i wr => ∃ k m : Nat, k ≤ 4 ∧ i = .int .i64 k ∧ wr = X.drewN m) (fun i _ => 4 - (intOf i).toNat)
  case atStart => exact ⟨0, 0, Nat.zero_le _, rfl, rfl⟩
  case round =>
    obtain ⟨k, m, hk, rfl, rfl⟩ := hrel
    by_cases hki : k < 4
    · obtain ⟨q, hq, hql⟩ := word_at HX5.out k (by omega)
      have tq : (q.toList == p.toList) = false := word_ne (by
        rw [hql, HPL.out]
        match k, hki with
        | 0, _ => exact (by decide : wordK 0 ≠ wSlew)
        | 1, _ => exact (by decide : wordK 1 ≠ wSlew)
        | 2, _ => exact (by decide : wordK 2 ≠ wSlew)
        | 3, _ => exact (by decide : wordK 3 ≠ wSlew))
      have tk : decide ((k : Int) < 5) = true := decide_eq_true (by omega)
      have tk2 : (k : Int) < 5 := by omega
      have tk3 : (0 : Int) ≤ (k : Int) := by omega
      go_wp2
      go_quiet (fail)
      go_wp2
      go_roundw
      case rel => exact ⟨k + 1, _, by omega, by go_num, rfl⟩
      case measure => simp [intOf]; omega
    · obtain rfl : k = 4 := by omega
      clear hki hk
      obtain ⟨q, hq, hql⟩ := word_at HX5.out 4 (by decide)
      have tq : (q.toList == p.toList) = true := word_eq (by rw [hql, HPL.out]; rfl)
      go_wp2
      go_quiet (fail)
      clear hq hql tq
      by_cases hlen : n = 2
      case neg =>
        have t6 : ((n : Int) != 2) = true := by simp; omega
        have HD := Lib.hid ((doL_slew st r).trans (once_bad (by rw [nums_form r 1 (by have := HR.out; omega)]) (by decide : (6 : Nat) ≠ 0)))
        go_wp2
        go_ret
        exact lnp_bad HD.out (by decide) (HBZ.out _)
      case pos =>
        subst hlen
        have hrl : r.length = 1 := by have := HR.out; omega
        have c1 : ¬ c = 1 := by omega
        have c2 : 2 ≤ c := hc
        have K58 : Hid (∀ m, Calls Tryd.prog 58 #[.slice (some ⟨g, 1, none⟩) 1 (c - 1)] (X.drewN m) fun e w' => ∃ x y : Int, e = .returned (.tuple #[.agg #[.int .i64 x, .int .i64 y], .int .i64 ((numsF [] r).2 : Nat)]) ∧ ((numsF [] r).2 = 0 → (numsF [] r).1 = [x, y].take 1) ∧ Below X.heap.size X w') := fun m => by
          have hT : Txts (X.drewN m) (.slice (some ⟨g, 1, none⟩) 1 (c - 1)) r := ⟨some ⟨g, 1, none⟩, c - 1, by rw [hrl], by omega, fun _ => ⟨g, 1, rfl, Nat.lt_of_lt_of_le hg (HBN.out m).size, fun j z hj => ((HBN.out m).cell (p := ⟨g, 1 + j, none⟩) hg).trans (by rw [Nat.add_comm]; exact HCE.out (j + 1) z (by simpa using hj))⟩⟩
          refine (rnums_any _ r _ hT (by omega) HSZ.out).mono ?_
          rintro e w' ⟨x, y, h1, h2, h3⟩
          rw [hrl] at h2
          exact ⟨x, y, h1, h2, ⟨h3.os, h3.tape, h3.output, h3.size, h3.block⟩⟩
        have HNF := Lib.hid (nums_full r 1 hrl)
        obtain ⟨en, hen⟩ : ∃ en, en = (numsF [] r).2 := ⟨_, rfl⟩
        have HEN := Lib.hid hen
        rw [← hen] at K58
        clear hen hrl x0
        go_wp2_with fail
        refine (K58.out _).mono ?_
        rintro e w3 ⟨x, y, rfl, hxy, hb3⟩
        have HB3 := Lib.hid hb3
        have HXY := Lib.hid hxy
        clear hxy hb3 K58
        by_cases he : en = 0
        case neg =>
          have te : ((en : Int) != 0) = true := by simp; omega
          have HD := Lib.hid ((doL_slew st r).trans (once_bad (by rw [HNF.out, ← HEN.out]) he))
          have HBY : Hid (∀ o, Below bc w (w3.alloc o)) := fun o => ((HBX.out.trans (HB3.out.mono HBX.out.size)).alloc (by have := HB3.out.size; have := HBX.out.size; omega) o).mono (by omega)
          go_wp2
          go_ret
          exact lnp_bad HD.out he (HBY.out _)
        case pos =>
          subst he
          have HNM : Hid (numbersOf r 1 = ([x, y].take 1, 0)) := by
            show _ = _
            rw [HNF.out]
            exact Prod.ext (HXY.out rfl) HEN.out.symm
          obtain ⟨Y, hY⟩ : ∃ Y, Y = w3.alloc (.cells #[.int .i64 x, .int .i64 y] 97) := ⟨_, rfl⟩
          have HBY : Hid (Below w.heap.size w Y) := by
            show Below _ _ _
            rw [hY]; exact (HBX.out.trans (HB3.out.mono HBX.out.size)).alloc (by have := HB3.out.size; have := HBX.out.size; omega) _
          have HBZ2 : Hid (Below bc w Y) := HBY.out.mono (by omega)
          have HRY : Hid (Rst Y bc st) := by
            show Rst _ _ _
            rw [hY]
            exact (HRS.out.below HB3.out (Nat.le_refl _)).below (below_alloc _ _) (Nat.le_refl _)
          have HG3 : Hid (w.heap.size ≤ w3.heap.size) := Nat.le_trans HBX.out.size HB3.out.size
          have HR3 := Lib.hid (HRS.out.below HB3.out (Nat.le_refl _))
          have HBW3 : Hid (Below bc w w3) := (HBX.out.trans (HB3.out.mono HBX.out.size)).mono (by omega)
          have lt3 : bc + 1 < w3.heap.size := HR3.out.lt
          have lt4 : bc < w3.heap.size := by omega
          have hy1 : w3.heap.size ≠ bc + 1 := by have := HG3.out; omega
          have hy2 : w3.heap.size ≠ bc := by have := HG3.out; omega
          obtain ⟨s0, s1, s2, s3, s4, sf⟩ := five_bools HR3.out.seen
          have f1 := sf 4
          obtain ⟨A', cp', hcp', hb', hrow', c0, cq, cl, cm, cd, cs, cf⟩ := HR3.out.cell.facts
          have HROW := Lib.hid hrow'
          have HBK := Lib.hid hb'
          have z0 := cf 0
          have z1 := cf 1
          have z2 := cf 2
          have z3 := cf 3
          have z4 := cf 4
          have z5 := cf 5
          clear sf cf hrow' hb' HNF HEN HXY
          cases hb : st.b4 with
          | true =>
            have HD := Lib.hid ((doL_slew st r).trans (once_twice HNM.out hb))
            rw [hb] at s4
            clear hb
            go_wp2
            rw [← hY]
            go_ret
            exact lnp_bad HD.out (by decide) HBZ2.out
          | false =>
            have HD := Lib.hid ((doL_slew st r).trans (once_ok HNM.out hb))
            rw [hb] at s4
            clear hb
            go_wp2
            go_ret
            refine lnp_ok HD.out (rst_al ?_ _) (below_al (below_set (below_set HBW3.out (by omega)) (by omega)) (by omega) _)
            exact ⟨(cell_set5 (cell_mark HR3.out.cell) (by omega) x), (seen_other (seen_set HR3.out.seen)), HR3.out.len⟩
end Go.Proofs.YtlbabhddjdhalaaDoor
