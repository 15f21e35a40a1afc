/- Same: the program's and the document's. -/
import Derived.Test.YtlbabhddjdhalaaDoorChk2
namespace Go.Proofs.YtlbabhddjdhalaaDoor
open Go.RowKit Go.Proofs.Lx

instance : DecidableEq Cfg := fun a b => by
  cases a; cases b
  simp only [Cfg.mk.injEq]
  infer_instance
theorem below_draws {w : World} (n : Nat) : Below w.heap.size w (w.drewN n) := ⟨rfl, rfl, rfl, Nat.le_refl _, fun _ _ => rfl⟩
theorem take_eq_succ {xs ys : List Int} {k : Nat} (h : k < xs.length) (h' : k < ys.length) (he : xs.take k = ys.take k) (hx : xs[k] = ys[k]) : xs.take (k + 1) = ys.take (k + 1) := by
  rw [List.take_succ_eq_append_getElem h, List.take_succ_eq_append_getElem h', he, hx]

set_option maxRecDepth 100000 in
set_option maxHeartbeats 2000000 in
theorem equal_any (v v' : Value) (xs ys : List Int) (w : World) (h : Ints w v xs) (h' : Ints w v' ys) (_hl : xs.length ≤ 1000000) (_hl' : ys.length ≤ 1000000) :
    Calls Tryd.prog 30 #[v, v'] w fun e w' => e = .returned (.bool (decide (xs = ys))) ∧ Below w.heap.size w w' := by
  obtain ⟨A, c, rfl, hc⟩ := h.len
  obtain ⟨A', c', rfl, hc'⟩ := h'.len
  have HI := Lib.hid h
  have HI' := Lib.hid h'
  clear h h'
  by_cases hn : xs.length = ys.length
  · obtain ⟨N, hN⟩ : ∃ N, N = xs.length := ⟨_, rfl⟩
    have HN := Lib.hid hN
    have HN' := Lib.hid (hN.trans hn)
    rw [← hn, ← hN]
    rw [← hn] at _hl' hc'
    rw [← hN] at _hl hc _hl' hc'
    clear hn hN
    have t0 : ((N : Int) != (N : Int)) = false := by simp
    go_enter Tryd.func30, Tryd.ntmps30
    go_wp2
    go_loopw [13] (fun i wr => ∃ k n : Nat, k ≤ N ∧ i = .int .i64 k ∧ Hid (xs.take k = ys.take k) ∧ wr = w.drewN n) (fun i _ => N - (intOf i).toNat)
    case atStart => exact ⟨0, 0, Nat.zero_le _, rfl, (by simp : xs.take 0 = ys.take 0), rfl⟩
    case round =>
      obtain ⟨k, n, hk, rfl, HX, rfl⟩ := hrel
      by_cases hkN : k < N
      · have hk1 : k < xs.length := by have := HN.out; omega
        have hk2 : k < ys.length := by have := HN'.out; omega
        obtain ⟨g, o, rfl, hg, hcell⟩ := HI.out.at_ k hk1
        obtain ⟨g', o', rfl, hg', hcell'⟩ := HI'.out.at_ k hk2
        have HS := Lib.hid (take_eq_succ hk1 hk2 HX.out)
        have HD : Hid (xs[k] ≠ ys[k] → xs ≠ ys) := fun h e => h (by subst e; rfl)
        obtain ⟨x, hx⟩ : ∃ x, x = xs[k] := ⟨_, rfl⟩
        obtain ⟨y, hy⟩ : ∃ y, y = ys[k] := ⟨_, rfl⟩
        rw [← hx] at hcell HS HD
        rw [← hy] at hcell' HS HD
        clear hx hy hk1 hk2
        by_cases hxy : x = y
        · subst hxy
          have t1 : (x != x) = false := by simp
          go_wp2
          go_quiet (fail)
          go_wp2
          go_roundw
          case rel => exact ⟨k + 1, _, by omega, by go_num, HS.out (by trivial), rfl⟩
          case measure => simp [intOf]; omega
        · have t1 : (x != y) = true := by simp [hxy]
          have HF : Hid (decide (xs = ys) = false) := decide_eq_false (HD.out hxy)
          go_wp2
          go_quiet (fail)
          go_wp2
          all_goals
            go_ret
            exact ⟨by rw [HF.out]; try rfl, ⟨rfl, rfl, rfl, Nat.le_refl _, fun _ _ => rfl⟩⟩
      · have hx := HX.out
        rw [List.take_of_length_le (by have := HN.out; omega), List.take_of_length_le (by have := HN'.out; omega)] at hx
        have HF : Hid (decide (xs = ys) = true) := decide_eq_true hx
        clear hx HX
        go_wp2
        go_ret
        exact ⟨by rw [HF.out]; try rfl, ⟨rfl, rfl, rfl, Nat.le_refl _, fun _ _ => rfl⟩⟩
  · have HF : Hid (decide (xs = ys) = false) := decide_eq_false (fun e => hn (by rw [e]))
    obtain ⟨N, hN⟩ : ∃ N, N = xs.length := ⟨_, rfl⟩
    obtain ⟨M, hM⟩ : ∃ M, M = ys.length := ⟨_, rfl⟩
    rw [← hN, ← hM] at hn
    rw [← hN] at _hl hc
    rw [← hM] at _hl' hc'
    have t0 : ((N : Int) != (M : Int)) = true := by simp; omega
    rw [← hN, ← hM]
    clear hN hM
    go_enter Tryd.func30, Tryd.ntmps30
    go_wp2
    all_goals
      go_ret
      exact ⟨by rw [HF.out]; try rfl, Below.refl _ _⟩

theorem six_cells {w : World} {g : Nat} {v0 v1 v2 v3 v4 v5 : Value} {t : TypeId} (h : w.heap[g]? = some (.cells #[v0, v1, v2, v3, v4, v5] t (0, 0))) : w.cell? ⟨g, 0, none⟩ = some v0 ∧ w.cell? ⟨g, 1, none⟩ = some v1 ∧ w.cell? ⟨g, 2, none⟩ = some v2 ∧ w.cell? ⟨g, 3, none⟩ = some v3 ∧ w.cell? ⟨g, 4, none⟩ = some v4 ∧ w.cell? ⟨g, 5, none⟩ = some v5 := by
  refine ⟨?_, ?_, ?_, ?_, ?_, ?_⟩
  all_goals (rw [Lib.cell_of_heap h]; rfl)
theorem same_eq (a b : Cfg) : decide (a = b) = (decide (a.S = b.S) && (a.q == b.q) && (a.l == b.l) && (a.m == b.m) && (a.d == b.d) && (a.s == b.s)) := by
  cases a; cases b
  rw [Bool.eq_iff_iff]
  simp [and_assoc]

set_option maxRecDepth 100000 in
set_option maxHeartbeats 2000000 in
theorem same_any (v v' : Value) (a b : Cfg) (w : World) (h : Ints w v a.S) (h' : Ints w v' b.S) (hl : a.S.length ≤ 1000000) (hl' : b.S.length ≤ 1000000) :
    Calls Tryd.prog 14 #[cval v a, cval v' b] w fun e w' => e = .returned (.bool (decide (a = b))) ∧ Below w.heap.size w w' := by
  obtain ⟨A, c, rfl, hc⟩ := h.len
  obtain ⟨A', c', rfl, hc'⟩ := h'.len
  have HE := Lib.hid (same_eq a b)
  obtain ⟨W, hW⟩ : ∃ W, W = (w.alloc (.cells #[.slice A a.S.length c, .int .i64 a.q, .int .i64 a.l, .int .i64 a.m, .int .i64 a.d, .int .i64 a.s] 24)).alloc (.cells #[.slice A' b.S.length c', .int .i64 b.q, .int .i64 b.l, .int .i64 b.m, .int .i64 b.d, .int .i64 b.s] 24) := ⟨_, rfl⟩
  have hbW : Below w.heap.size w W := by rw [hW]; exact ((Below.refl _ _).alloc (Nat.le_refl _) _).alloc (by simp) _
  have KE := Lib.hid (equal_any _ _ a.S b.S W (h.below hbW (Nat.le_refl _)) (h'.below hbW (Nat.le_refl _)) hl hl')
  have g1 : W.heap[w.heap.size]? = some (.cells #[.slice A a.S.length c, .int .i64 a.q, .int .i64 a.l, .int .i64 a.m, .int .i64 a.d, .int .i64 a.s] 24 (0, 0)) := by rw [hW]; exact heap_alloc2_old _ _ _
  have g2 : W.heap[w.heap.size + 1]? = some (.cells #[.slice A' b.S.length c', .int .i64 b.q, .int .i64 b.l, .int .i64 b.m, .int .i64 b.d, .int .i64 b.s] 24 (0, 0)) := by rw [hW]; exact heap_alloc2_new _ _ _
  have hs : W.heap.size = w.heap.size + 2 := by rw [hW]; simp
  have HG1 := Lib.hid g1
  have HG2 := Lib.hid g2
  obtain ⟨N, hN⟩ : ∃ N, N = a.S.length := ⟨_, rfl⟩
  obtain ⟨M, hM⟩ : ∃ M, M = b.S.length := ⟨_, rfl⟩
  rw [← hN, ← hM] at hW KE
  unfold cval
  rw [← hN, ← hM]
  clear hN hM h h' hl hl' hc hc' g1 g2
  have HCE : ∀ w2, Below W.heap.size W w2 → w2.heap[w.heap.size]? = W.heap[w.heap.size]? ∧ w2.heap[w.heap.size + 1]? = W.heap[w.heap.size + 1]? := fun w2 hb => ⟨hb.block _ (by omega), hb.block _ (by omega)⟩
  have HCH := Lib.hid HCE
  have HBW := Lib.hid hbW
  clear HCE hs hbW
  obtain ⟨eq, heq⟩ : ∃ eq, eq = decide (a.S = b.S) := ⟨_, rfl⟩
  rw [← heq] at KE HE
  clear heq
  rw [HE.out]
  cases eq with
  | false =>
    go_enter Tryd.func14, Tryd.ntmps14
    go_wp2_with (rw [← hW]; go_at_call 30; refine KE.out.mono ?_; rintro e w2 ⟨rfl, hb2⟩; obtain ⟨k1, k2⟩ := HCH.out w2 hb2; rw [HG1.out] at k1; rw [HG2.out] at k2; obtain ⟨_, r1, r2, r3, r4, r5⟩ := six_cells k1; obtain ⟨_, s1, s2, s3, s4, s5⟩ := six_cells k2; have HB2 := Lib.hid (HBW.out.trans (hb2.mono HBW.out.size)); clear k1 k2 hb2)
    go_ret
    exact ⟨by simp, HB2.out⟩
  | true =>
    cases t0 : (a.q == b.q) with
    | false =>
      go_enter Tryd.func14, Tryd.ntmps14
      go_wp2_with (rw [← hW]; go_at_call 30; refine KE.out.mono ?_; rintro e w2 ⟨rfl, hb2⟩; obtain ⟨k1, k2⟩ := HCH.out w2 hb2; rw [HG1.out] at k1; rw [HG2.out] at k2; obtain ⟨_, r1, r2, r3, r4, r5⟩ := six_cells k1; obtain ⟨_, s1, s2, s3, s4, s5⟩ := six_cells k2; have HB2 := Lib.hid (HBW.out.trans (hb2.mono HBW.out.size)); clear k1 k2 hb2)
      go_ret
      exact ⟨by simp, HB2.out⟩
    | true =>
      cases t1 : (a.l == b.l) with
      | false =>
        go_enter Tryd.func14, Tryd.ntmps14
        go_wp2_with (rw [← hW]; go_at_call 30; refine KE.out.mono ?_; rintro e w2 ⟨rfl, hb2⟩; obtain ⟨k1, k2⟩ := HCH.out w2 hb2; rw [HG1.out] at k1; rw [HG2.out] at k2; obtain ⟨_, r1, r2, r3, r4, r5⟩ := six_cells k1; obtain ⟨_, s1, s2, s3, s4, s5⟩ := six_cells k2; have HB2 := Lib.hid (HBW.out.trans (hb2.mono HBW.out.size)); clear k1 k2 hb2)
        go_ret
        exact ⟨by simp, HB2.out⟩
      | true =>
        cases t2 : (a.m == b.m) with
        | false =>
          go_enter Tryd.func14, Tryd.ntmps14
          go_wp2_with (rw [← hW]; go_at_call 30; refine KE.out.mono ?_; rintro e w2 ⟨rfl, hb2⟩; obtain ⟨k1, k2⟩ := HCH.out w2 hb2; rw [HG1.out] at k1; rw [HG2.out] at k2; obtain ⟨_, r1, r2, r3, r4, r5⟩ := six_cells k1; obtain ⟨_, s1, s2, s3, s4, s5⟩ := six_cells k2; have HB2 := Lib.hid (HBW.out.trans (hb2.mono HBW.out.size)); clear k1 k2 hb2)
          go_ret
          exact ⟨by simp, HB2.out⟩
        | true =>
          cases t3 : (a.d == b.d) with
          | false =>
            go_enter Tryd.func14, Tryd.ntmps14
            go_wp2_with (rw [← hW]; go_at_call 30; refine KE.out.mono ?_; rintro e w2 ⟨rfl, hb2⟩; obtain ⟨k1, k2⟩ := HCH.out w2 hb2; rw [HG1.out] at k1; rw [HG2.out] at k2; obtain ⟨_, r1, r2, r3, r4, r5⟩ := six_cells k1; obtain ⟨_, s1, s2, s3, s4, s5⟩ := six_cells k2; have HB2 := Lib.hid (HBW.out.trans (hb2.mono HBW.out.size)); clear k1 k2 hb2)
            go_ret
            exact ⟨by simp, HB2.out⟩
          | true =>
            cases t4 : (a.s == b.s) with
            | false =>
              go_enter Tryd.func14, Tryd.ntmps14
              go_wp2_with (rw [← hW]; go_at_call 30; refine KE.out.mono ?_; rintro e w2 ⟨rfl, hb2⟩; obtain ⟨k1, k2⟩ := HCH.out w2 hb2; rw [HG1.out] at k1; rw [HG2.out] at k2; obtain ⟨_, r1, r2, r3, r4, r5⟩ := six_cells k1; obtain ⟨_, s1, s2, s3, s4, s5⟩ := six_cells k2; have HB2 := Lib.hid (HBW.out.trans (hb2.mono HBW.out.size)); clear k1 k2 hb2)
              go_ret
              exact ⟨by simp, HB2.out⟩
            | true =>
              go_enter Tryd.func14, Tryd.ntmps14
              go_wp2_with (rw [← hW]; go_at_call 30; refine KE.out.mono ?_; rintro e w2 ⟨rfl, hb2⟩; obtain ⟨k1, k2⟩ := HCH.out w2 hb2; rw [HG1.out] at k1; rw [HG2.out] at k2; obtain ⟨_, r1, r2, r3, r4, r5⟩ := six_cells k1; obtain ⟨_, s1, s2, s3, s4, s5⟩ := six_cells k2; have HB2 := Lib.hid (HBW.out.trans (hb2.mono HBW.out.size)); clear k1 k2 hb2)
              go_ret
              exact ⟨by simp, HB2.out⟩
end Go.Proofs.YtlbabhddjdhalaaDoor
