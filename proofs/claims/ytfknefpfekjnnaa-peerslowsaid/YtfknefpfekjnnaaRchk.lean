/- The document's own Check and Same. -/
import Derived.Test.YtfknefpfekjnnaaChk2
namespace Go.Proofs.Ytfknefpfekjnnaa
open Go.RowKit

theorem check_none (c : Cfg) (h0 : c.S ≠ []) (h1 : ¬ 16 < c.S.length) (h : srvs [] c.S = 0) (hn : ¬ numsOk c) : checkOf c = 3 := by
  unfold checkOf
  rw [if_neg h0, if_neg h1, h, if_neg (by simp), if_neg hn]
theorem check_some (c : Cfg) (h0 : c.S ≠ []) (h1 : ¬ 16 < c.S.length) (h : srvs [] c.S = 0) (hn : numsOk c) : checkOf c = 0 := by
  unfold checkOf
  rw [if_neg h0, if_neg h1, h, if_neg (by simp), if_pos hn]
theorem take_mem_succ {S : List Int} {j : Nat} {y : Int} (h : j < S.length) (hn : y ∉ S.take j) (hne : S[j] ≠ y) : y ∉ S.take (j + 1) := by
  rw [List.take_succ_eq_append_getElem h]
  simp only [List.mem_append, List.mem_singleton, not_or]
  exact ⟨hn, fun e => hne e.symm⟩
theorem take_mem_hit {S : List Int} {j k : Nat} {y : Int} (h : j < S.length) (hjk : j < k) (he : S[j] = y) : y ∈ S.take k := by
  rw [List.mem_take_iff_getElem]
  exact ⟨j, by omega, he⟩
set_option maxRecDepth 100000 in
set_option maxHeartbeats 4000000 in
theorem rcheck_any (v : Value) (c : Cfg) (w : World) (h : Ints w v c.S) (hl : c.S.length ≤ 1000000) :
    Calls Try.prog 32 #[cval v c] w fun e w' => e = .returned (.int .i64 (checkOf c : Nat)) ∧ Below w.heap.size w w' := by
  obtain ⟨A, cp, rfl, hc⟩ := h.len
  by_cases h0 : c.S = []
  · have HC := Lib.hid (check_lack c h0)
    have h00 : c.S.length = 0 := by rw [h0]; rfl
    rw [h00]
    clear h hl hc h0 h00
    unfold cval
    go_enter Try.func32, Try.ntmps32
    go_wp2
    go_ret
    exact ⟨by rw [HC.out]; rfl, (Below.refl _ _).alloc (Nat.le_refl _) _⟩
  by_cases h1 : 16 < c.S.length
  · have HC := Lib.hid (check_full c h0 h1)
    obtain ⟨N, hN⟩ : ∃ N, N = c.S.length := ⟨_, rfl⟩
    rw [← hN] at h1 hl hc ⊢
    have t0 : ((N : Int) == 0) = false := by simp; omega
    clear h h0 hN
    unfold cval
    go_enter Try.func32, Try.ntmps32
    go_wp2
    go_ret
    exact ⟨by rw [HC.out]; rfl, (Below.refl _ _).alloc (Nat.le_refl _) _⟩
  have HI := Lib.hid h
  have HCO := Lib.hid (fun hz hn => check_some c h0 h1 hz hn)
  have HCN := Lib.hid (fun hz hn => check_none c h0 h1 hz hn)
  have HCB := Lib.hid (fun (n : Nat) (hn : n ≠ 0) (h : srvs [] c.S = n) => ccheck_bad c h0 h1 h hn)
  have hpos : 0 < c.S.length := List.length_pos_iff.2 h0
  obtain ⟨N, hN⟩ : ∃ N, N = c.S.length := ⟨_, rfl⟩
  have HN := Lib.hid hN
  unfold cval
  rw [← hN] at h1 hl hc hpos HI ⊢
  clear h h0 hN
  have t0 : ((N : Int) == 0) = false := by simp; omega
  have t1 : decide ((16 : Int) < (N : Int)) = false := decide_eq_false (by omega)
  go_enter Try.func32, Try.ntmps32
  go_wp2
  obtain ⟨w1, hw1⟩ : ∃ w1, w1 = w.alloc (.cells #[.slice A N cp, .int .i64 c.q, .int .i64 c.l, .int .i64 c.m, .int .i64 c.d, .int .i64 c.s] 24) := ⟨_, rfl⟩
  have hb1 : Below w.heap.size w w1 := by rw [hw1]; exact (Below.refl _ _).alloc (Nat.le_refl _) _
  have c0 : w1.cell? ⟨w.heap.size, 0, none⟩ = some (.slice A N cp) := by rw [hw1]; simp
  have c1 : w1.cell? ⟨w.heap.size, 1, none⟩ = some (.int .i64 c.q) := by rw [hw1]; simp
  have c2 : w1.cell? ⟨w.heap.size, 2, none⟩ = some (.int .i64 c.l) := by rw [hw1]; simp
  have c3 : w1.cell? ⟨w.heap.size, 3, none⟩ = some (.int .i64 c.m) := by rw [hw1]; simp
  have c4 : w1.cell? ⟨w.heap.size, 4, none⟩ = some (.int .i64 c.d) := by rw [hw1]; simp
  have c5 : w1.cell? ⟨w.heap.size, 5, none⟩ = some (.int .i64 c.s) := by rw [hw1]; simp
  rw [← hw1]
  clear hw1
  have HI1 := Lib.hid (HI.out.below hb1 (Nat.le_refl _))
  have HBD : Hid (∀ n, Below w.heap.size w (w1.drewN n)) := fun n => ⟨hb1.os, hb1.tape, hb1.output, hb1.size, hb1.block⟩
  clear HI hb1
  go_loopw [3] (fun i wr => ∃ k n : Nat, k ≤ N ∧ i = .int .i64 k ∧ Hid (srvs [] c.S = srvs (c.S.take k) (c.S.drop k)) ∧ wr = w1.drewN n) (fun i _ => N - (intOf i).toNat)
  case atStart => exact ⟨0, 0, Nat.zero_le _, rfl, (by simp : srvs [] c.S = srvs (c.S.take 0) (c.S.drop 0)), rfl⟩
  case round =>
    obtain ⟨k, n, hk, rfl, HX, rfl⟩ := hrel
    by_cases hkN : k < N
    · have hkx : k < c.S.length := by have := HN.out; omega
      obtain ⟨g, o, rfl, hg, hcell⟩ := HI1.out.at_ k hkx
      have hst := HX.out
      rw [srvs_step c.S k hkx] at hst
      obtain ⟨y, hy⟩ : ∃ y, y = c.S[k] := ⟨_, rfl⟩
      rw [← hy] at hcell hst
      clear hy hkx HX
      by_cases hr : y < 1 ∨ 65535 < y
      · rw [if_pos hr] at hst
        have HC := Lib.hid (HCB.out 3 (by decide) hst)
        clear hst HCB
        rcases hr with hr | hr
        · go_wp2
          go_ret
          exact ⟨by rw [HC.out]; rfl, HBD.out _⟩
        · have hr2 : ¬ y < 1 := by omega
          go_wp2
          go_ret
          exact ⟨by rw [HC.out]; rfl, HBD.out _⟩
      · rw [if_neg hr] at hst
        have hr2 : ¬ y < 1 := by omega
        have hr3 : ¬ 65535 < y := by omega
        have HST := Lib.hid hst
        clear hr hst
        go_wp2
        go_loopw [4] (fun i wr => ∃ j n : Nat, j ≤ k ∧ i = .int .i64 j ∧ Hid (y ∉ c.S.take j) ∧ wr = w1.drewN n) (fun i _ => k - (intOf i).toNat)
        case atStart => exact ⟨0, _, Nat.zero_le _, rfl, (by simp : y ∉ c.S.take 0), rfl⟩
        case round =>
          obtain ⟨j, n, hj, rfl, HY, rfl⟩ := hrel
          by_cases hjk : j < k
          · have hjx : j < c.S.length := by have := HN.out; omega
            obtain ⟨g', o', e', hg', hcell'⟩ := HI1.out.at_ j hjx
            injection e' with e'
            injection e' with e1 e2
            subst e1 e2
            have HS := Lib.hid (take_mem_succ hjx HY.out)
            have HT := Lib.hid (fun e => take_mem_hit (y := y) hjx hjk e)
            obtain ⟨x, hx⟩ : ∃ x, x = c.S[j] := ⟨_, rfl⟩
            rw [← hx] at hcell' HS HT
            clear hx hjx HY
            by_cases hxy : x = y
            · have hst := HST.out
              rw [if_pos (HT.out hxy)] at hst
              have HC := Lib.hid (HCB.out 12 (by decide) hst)
              clear hst HT HS
              subst hxy
              have t5 : (x == x) = true := by simp
              go_wp2
              go_quiet (fail)
              go_wp2
              go_ret
              exact ⟨by rw [HC.out]; rfl, (HBD.out n).trans ((below_draws _).mono (HBD.out n).size)⟩
            · have HZ := Lib.hid (HS.out hxy)
              have t5 : (x == y) = false := by simp [hxy]
              clear hxy HS HT
              go_wp2
              go_quiet (fail)
              go_wp2
              go_roundw
              case rel => exact ⟨j + 1, _, by omega, by go_num, HZ, rfl⟩
              case measure => simp [intOf]; omega
          · have hst := HST.out
            have hjk2 : j = k := by omega
            subst hjk2
            rw [if_neg HY.out] at hst
            have HS := Lib.hid hst
            clear hst HST HY
            go_wp2
            go_roundw
            case rel => exact ⟨j + 1, _, by omega, by go_num, HS, rfl⟩
            case measure => simp [intOf]; omega
    · have hst := HX.out
      rw [List.drop_eq_nil_of_le (by have := HN.out; omega), srvs] at hst
      have HC3 := Lib.hid (HCN.out hst)
      have HC0 := Lib.hid (HCO.out hst)
      clear hst HX HCN HCO HCB
      have HL : Hid ((c.S.length : Int) = (N : Int)) := by have := HN.out; show _ = _; omega
      by_cases a1 : c.q < 1
      · have HC := Lib.hid (HC3.out (by unfold numsOk; omega))
        go_wp2
        go_ret
        exact ⟨by rw [HC.out]; rfl, HBD.out _⟩
      by_cases a2 : (N : Int) < c.q
      · have HC := Lib.hid (HC3.out (by have := HL.out; unfold numsOk; omega))
        go_wp2
        go_ret
        exact ⟨by rw [HC.out]; rfl, HBD.out _⟩
      by_cases a3 : c.l < 4
      · have HC := Lib.hid (HC3.out (by unfold numsOk; omega))
        go_wp2
        go_ret
        exact ⟨by rw [HC.out]; rfl, HBD.out _⟩
      by_cases a4 : c.m < c.l
      · have HC := Lib.hid (HC3.out (by unfold numsOk; omega))
        go_wp2
        go_ret
        exact ⟨by rw [HC.out]; rfl, HBD.out _⟩
      by_cases a5 : 1024 < c.m
      · have HC := Lib.hid (HC3.out (by unfold numsOk; omega))
        go_wp2
        go_ret
        exact ⟨by rw [HC.out]; rfl, HBD.out _⟩
      by_cases a6 : c.d < 1
      · have HC := Lib.hid (HC3.out (by unfold numsOk; omega))
        go_wp2
        go_ret
        exact ⟨by rw [HC.out]; rfl, HBD.out _⟩
      have a8 : c.l ≤ 1024 := by omega
      by_cases a7 : 1000 * c.l - 2000 < c.d
      · have HC := Lib.hid (HC3.out (by unfold numsOk; omega))
        go_wp2
        go_ret
        exact ⟨by rw [HC.out]; rfl, HBD.out _⟩
      by_cases a9 : c.s < 1
      · have HC := Lib.hid (HC3.out (by unfold numsOk; omega))
        go_wp2
        go_ret
        exact ⟨by rw [HC.out]; rfl, HBD.out _⟩
      by_cases a10 : 500 < c.s
      · have HC := Lib.hid (HC3.out (by unfold numsOk; omega))
        go_wp2
        go_ret
        exact ⟨by rw [HC.out]; rfl, HBD.out _⟩
      · have HC := Lib.hid (HC0.out (by have := HL.out; unfold numsOk; omega))
        go_wp2
        go_ret
        exact ⟨by rw [HC.out]; rfl, HBD.out _⟩
end Go.Proofs.Ytfknefpfekjnnaa
