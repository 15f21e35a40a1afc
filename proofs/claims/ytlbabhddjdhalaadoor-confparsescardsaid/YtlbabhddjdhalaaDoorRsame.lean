/- The document's own Same. -/
import Derived.Test.YtlbabhddjdhalaaDoorSame
namespace Go.Proofs.YtlbabhddjdhalaaDoor
open Go.RowKit Go.Proofs.Lx

theorem cfg_ne {a b : Cfg} (h : a.S ≠ b.S ∨ a.q ≠ b.q ∨ a.l ≠ b.l ∨ a.m ≠ b.m ∨ a.d ≠ b.d ∨ a.s ≠ b.s) : decide (a = b) = false := decide_eq_false fun e => by
  subst e; simp at h
theorem cfg_eq {a b : Cfg} (h0 : a.S = b.S) (h1 : a.q = b.q) (h2 : a.l = b.l) (h3 : a.m = b.m) (h4 : a.d = b.d) (h5 : a.s = b.s) : decide (a = b) = true := decide_eq_true (by
  cases a; cases b
  simp_all)
set_option maxRecDepth 100000 in
set_option maxHeartbeats 4000000 in
theorem rsame_any (v v' : Value) (a b : Cfg) (w : World) (h : Ints w v a.S) (h' : Ints w v' b.S) (hl : a.S.length ≤ 1000000) (hl' : b.S.length ≤ 1000000) :
    Calls Tryd.prog 15 #[cval v a, cval v' b] w fun e w' => e = .returned (.bool (decide (a = b))) ∧ Below w.heap.size w w' := by
  obtain ⟨A, c, rfl, hc⟩ := h.len
  obtain ⟨A', c', rfl, hc'⟩ := h'.len
  obtain ⟨W, hW⟩ : ∃ W, W = (w.alloc (.cells #[.slice A a.S.length c, .int .i64 a.q, .int .i64 a.l, .int .i64 a.m, .int .i64 a.d, .int .i64 a.s] 24)).alloc (.cells #[.slice A' b.S.length c', .int .i64 b.q, .int .i64 b.l, .int .i64 b.m, .int .i64 b.d, .int .i64 b.s] 24) := ⟨_, rfl⟩
  have hbW : Below w.heap.size w W := by rw [hW]; exact ((Below.refl _ _).alloc (Nat.le_refl _) _).alloc (by simp) _
  have HBW := Lib.hid hbW
  have HI := Lib.hid (h.below hbW (Nat.le_refl _))
  have HI' := Lib.hid (h'.below hbW (Nat.le_refl _))
  have HNE := Lib.hid (cfg_ne (a := a) (b := b))
  have HEQ := Lib.hid (cfg_eq (a := a) (b := b))
  have HG1 : Hid (W.heap[w.heap.size]? = some (.cells #[.slice A a.S.length c, .int .i64 a.q, .int .i64 a.l, .int .i64 a.m, .int .i64 a.d, .int .i64 a.s] 24 (0, 0))) := by rw [hW]; exact heap_alloc2_old _ _ _
  have HG2 : Hid (W.heap[w.heap.size + 1]? = some (.cells #[.slice A' b.S.length c', .int .i64 b.q, .int .i64 b.l, .int .i64 b.m, .int .i64 b.d, .int .i64 b.s] 24 (0, 0))) := by rw [hW]; exact heap_alloc2_new _ _ _
  obtain ⟨N, hN⟩ : ∃ N, N = a.S.length := ⟨_, rfl⟩
  obtain ⟨M, hM⟩ : ∃ M, M = b.S.length := ⟨_, rfl⟩
  have HN := Lib.hid hN
  have HM := Lib.hid hM
  unfold cval
  rw [← hN] at HI HG1 hl hc hW
  rw [← hM] at HI' HG2 hl' hc' hW
  rw [← hN, ← hM]
  clear hN hM h h' hbW
  by_cases tn : N = M
  case neg =>
    have HF := Lib.hid (HNE.out (.inl fun e => tn (by rw [HN.out, HM.out, e])))
    have t0 : ((N : Int) != (M : Int)) = true := by simp; omega
    clear HNE HEQ
    go_enter Tryd.func15, Tryd.ntmps15
    go_wp2
    all_goals
      try rw [← hW]
      go_ret
      exact ⟨by rw [HF.out]; try rfl, HBW.out⟩
  case pos =>
    subst tn
    have t0 : ((N : Int) != (N : Int)) = false := by simp
    by_cases tq : a.q = b.q
    case neg =>
      have HF := Lib.hid (HNE.out (.inr (.inl tq)))
      have uq : (a.q != b.q) = true := by simp [tq]
      clear HNE HEQ
      go_enter Tryd.func15, Tryd.ntmps15
      go_wp2
      all_goals
        try rw [← hW]
        go_ret
        exact ⟨by rw [HF.out]; try rfl, HBW.out⟩
    case pos =>
      have uq : (a.q != b.q) = false := by simp [tq]
      have Hq := Lib.hid tq
      clear tq
      by_cases tl : a.l = b.l
      case neg =>
        have HF := Lib.hid (HNE.out (.inr (.inr (.inl tl))))
        have ul : (a.l != b.l) = true := by simp [tl]
        clear HNE HEQ
        go_enter Tryd.func15, Tryd.ntmps15
        go_wp2
        all_goals
          try rw [← hW]
          go_ret
          exact ⟨by rw [HF.out]; try rfl, HBW.out⟩
      case pos =>
        have ul : (a.l != b.l) = false := by simp [tl]
        have Hl := Lib.hid tl
        clear tl
        by_cases tm : a.m = b.m
        case neg =>
          have HF := Lib.hid (HNE.out (.inr (.inr (.inr (.inl tm)))))
          have um : (a.m != b.m) = true := by simp [tm]
          clear HNE HEQ
          go_enter Tryd.func15, Tryd.ntmps15
          go_wp2
          all_goals
            try rw [← hW]
            go_ret
            exact ⟨by rw [HF.out]; try rfl, HBW.out⟩
        case pos =>
          have um : (a.m != b.m) = false := by simp [tm]
          have Hm := Lib.hid tm
          clear tm
          by_cases td : a.d = b.d
          case neg =>
            have HF := Lib.hid (HNE.out (.inr (.inr (.inr (.inr (.inl td))))))
            have ud : (a.d != b.d) = true := by simp [td]
            clear HNE HEQ
            go_enter Tryd.func15, Tryd.ntmps15
            go_wp2
            all_goals
              try rw [← hW]
              go_ret
              exact ⟨by rw [HF.out]; try rfl, HBW.out⟩
          case pos =>
            have ud : (a.d != b.d) = false := by simp [td]
            have Hd := Lib.hid td
            clear td
            by_cases ts : a.s = b.s
            case neg =>
              have HF := Lib.hid (HNE.out (.inr (.inr (.inr (.inr (.inr (ts)))))))
              have us : (a.s != b.s) = true := by simp [ts]
              clear HNE HEQ
              go_enter Tryd.func15, Tryd.ntmps15
              go_wp2
              all_goals
                try rw [← hW]
                go_ret
                exact ⟨by rw [HF.out]; try rfl, HBW.out⟩
            case pos =>
              have us : (a.s != b.s) = false := by simp [ts]
              have Hs := Lib.hid ts
              clear ts
              obtain ⟨k0, _⟩ := six_cells HG1.out
              obtain ⟨l0, _⟩ := six_cells HG2.out
              have HBD : Hid (∀ n, Below w.heap.size w (W.drewN n)) := fun n => ⟨HBW.out.os, HBW.out.tape, HBW.out.output, HBW.out.size, HBW.out.block⟩
              go_enter Tryd.func15, Tryd.ntmps15
              go_wp2
              rw [← hW]
              clear hW
              go_loopw [5] (fun i wr => ∃ k n : Nat, k ≤ N ∧ i = .int .i64 k ∧ Hid (a.S.take k = b.S.take k) ∧ wr = W.drewN n) (fun i _ => N - (intOf i).toNat)
              case atStart => exact ⟨0, 0, Nat.zero_le _, rfl, (by simp : a.S.take 0 = b.S.take 0), rfl⟩
              case round =>
                obtain ⟨k, n, hk, rfl, HX, rfl⟩ := hrel
                by_cases hkN : k < N
                · have hk1 : k < a.S.length := by have := HN.out; omega
                  have hk2 : k < b.S.length := by have := HM.out; omega
                  obtain ⟨g, o, rfl, hg, hcell⟩ := HI.out.at_ k hk1
                  obtain ⟨g', o', rfl, hg', hcell'⟩ := HI'.out.at_ k hk2
                  have HS := Lib.hid (take_eq_succ hk1 hk2 HX.out)
                  have HD : Hid (a.S[k] ≠ b.S[k] → a.S ≠ b.S) := fun h e => h (by simp only [e])
                  obtain ⟨x, hx⟩ : ∃ x, x = a.S[k] := ⟨_, rfl⟩
                  obtain ⟨y, hy⟩ : ∃ y, y = b.S[k] := ⟨_, rfl⟩
                  rw [← hx] at hcell HS HD
                  rw [← hy] at hcell' HS HD
                  clear hx hy hk1 hk2
                  by_cases hxy : x = y
                  · subst hxy
                    have t1 : (x != x) = false := by simp
                    go_wp2
                    go_quiet (fail)
                    go_wp2
                    go_roundw
                    case rel => exact ⟨k + 1, _, by omega, by go_num, HS.out (by trivial), rfl⟩
                    case measure => simp [intOf]; omega
                  · have t1 : (x != y) = true := by simp [hxy]
                    have HF := Lib.hid (HNE.out (.inl (HD.out hxy)))
                    go_wp2
                    go_quiet (fail)
                    go_wp2
                    all_goals
                      go_ret
                      exact ⟨by rw [HF.out]; try rfl, (HBD.out n).trans ((below_draws _).mono (HBD.out n).size)⟩
                · have hx := HX.out
                  rw [List.take_of_length_le (by have := HN.out; omega), List.take_of_length_le (by have := HM.out; omega)] at hx
                  have HF := Lib.hid (HEQ.out hx Hq.out Hl.out Hm.out Hd.out Hs.out)
                  clear hx HX
                  go_wp2
                  go_ret
                  exact ⟨by rw [HF.out]; try rfl, HBD.out n⟩
end Go.Proofs.YtlbabhddjdhalaaDoor
