/- Check, Same: the program's. -/
import Derived.Test.YtfknefpfekjnnaaChk
namespace Go.Proofs.Ytfknefpfekjnnaa
open Go.RowKit

theorem check_of (c : Cfg) (h0 : c.S ≠ []) (h1 : ¬ 16 < c.S.length) (h : srvs [] c.S = 0) : checkOf c = if cmay c then 0 else 3 := by
  unfold checkOf
  rw [if_neg h0, if_neg h1, h, may_iff]
  simp
theorem ccheck_bad (c : Cfg) (h0 : c.S ≠ []) (h1 : ¬ 16 < c.S.length) {n : Nat} (h : srvs [] c.S = n) (hn : n ≠ 0) : checkOf c = n := by
  unfold checkOf
  rw [if_neg h0, if_neg h1, h, if_pos hn]
theorem check_lack (c : Cfg) (h0 : c.S = []) : checkOf c = 13 := if_pos h0
theorem check_full (c : Cfg) (h0 : c.S ≠ []) (h1 : 16 < c.S.length) : checkOf c = 11 := by
  unfold checkOf
  rw [if_neg h0, if_pos h1]
theorem returned_int {a b : Int} (h : a = b) : Ending.returned (.int .i64 a) = .returned (.int .i64 b) := by rw [h]

set_option maxRecDepth 100000 in
set_option maxHeartbeats 4000000 in
theorem check_any (v : Value) (c : Cfg) (w : World) (h : Ints w v c.S) (hl : c.S.length ≤ 1000000) :
    Calls Try.prog 29 #[cval v c] w fun e w' => e = .returned (.int .i64 (checkOf c : Nat)) ∧ Below w.heap.size w w' := by
  obtain ⟨A, cp, rfl, hc⟩ := h.len
  by_cases h0 : c.S = []
  · have HC := Lib.hid (check_lack c h0)
    have h00 : c.S.length = 0 := by rw [h0]; rfl
    rw [h00]
    clear h hl hc h0 h00
    unfold cval
    go_enter Try.func29, Try.ntmps29
    go_wp2
    go_ret
    exact ⟨by rw [HC.out]; rfl, (Below.refl _ _).alloc (Nat.le_refl _) _⟩
  by_cases h1 : 16 < c.S.length
  · have HC := Lib.hid (check_full c h0 h1)
    obtain ⟨N, hN⟩ : ∃ N, N = c.S.length := ⟨_, rfl⟩
    rw [← hN] at h1 hl hc ⊢
    clear h h0 hN
    unfold cval
    go_enter Try.func29, Try.ntmps29
    go_wp2
    go_ret
    exact ⟨by rw [HC.out]; rfl, (Below.refl _ _).alloc (Nat.le_refl _) _⟩
  · have KM := Lib.hid (maybe_any (.slice A c.S.length cp) c)
    have HI := Lib.hid h
    have HCO := Lib.hid (check_of c h0 h1)
    have HCB := Lib.hid (fun (n : Nat) (hn : n ≠ 0) (h : srvs [] c.S = n) => ccheck_bad c h0 h1 h hn)
    have hpos : 0 < c.S.length := List.length_pos_iff.2 h0
    obtain ⟨N, hN⟩ : ∃ N, N = c.S.length := ⟨_, rfl⟩
    have HN := Lib.hid hN
    have KB := Lib.hid (fun (k : Nat) (x : Int) (w' : World) (hI : Ints w' (.slice A c.S.length cp) c.S) (hk : k ≤ c.S.length) => contains_any _ _ x w' (hI.take k hk) (by simp; omega))
    unfold cval at KM ⊢
    rw [← hN] at h1 hl hc hpos HI KM KB ⊢
    clear h h0 hN
    have t0 : ((N : Int) == 0) = false := by simp; omega
    have t1 : decide ((16 : Int) < (N : Int)) = false := decide_eq_false (by omega)
    go_enter Try.func29, Try.ntmps29
    go_wp2
    obtain ⟨w1, hw1⟩ : ∃ w1, w1 = w.alloc (.cells #[.slice A N cp, .int .i64 c.q, .int .i64 c.l, .int .i64 c.m, .int .i64 c.d, .int .i64 c.s] 24) := ⟨_, rfl⟩
    have hb1 : Below w.heap.size w w1 := by rw [hw1]; exact (Below.refl _ _).alloc (Nat.le_refl _) _
    have c0 : w1.cell? ⟨w.heap.size, 0, none⟩ = some (.slice A N cp) := by rw [hw1]; simp
    have c1 : w1.cell? ⟨w.heap.size, 1, none⟩ = some (.int .i64 c.q) := by rw [hw1]; simp
    have c2 : w1.cell? ⟨w.heap.size, 2, none⟩ = some (.int .i64 c.l) := by rw [hw1]; simp
    have c3 : w1.cell? ⟨w.heap.size, 3, none⟩ = some (.int .i64 c.m) := by rw [hw1]; simp
    have c4 : w1.cell? ⟨w.heap.size, 4, none⟩ = some (.int .i64 c.d) := by rw [hw1]; simp
    have c5 : w1.cell? ⟨w.heap.size, 5, none⟩ = some (.int .i64 c.s) := by rw [hw1]; simp
    rw [← hw1]
    clear hw1
    have HI1 := Lib.hid (HI.out.below hb1 (Nat.le_refl _))
    clear HI
    go_loopw [16] (fun i wr => ∃ k : Nat, k ≤ N ∧ i = .int .i64 k ∧ Hid (srvs [] c.S = srvs (c.S.take k) (c.S.drop k)) ∧ wr = w1) (fun i _ => N - (intOf i).toNat)
    case atStart => exact ⟨0, Nat.zero_le _, rfl, (by simp : srvs [] c.S = srvs (c.S.take 0) (c.S.drop 0)), by trivial⟩
    case round =>
      obtain ⟨k, hk, rfl, HX, rfl⟩ := hrel
      by_cases hkN : k < N
      · have hkx : k < c.S.length := by have := HN.out; omega
        obtain ⟨g, o, rfl, hg, hcell⟩ := HI1.out.at_ k hkx
        have hst := HX.out
        rw [srvs_step c.S k hkx] at hst
        have KC := Lib.hid (fun x => KB.out k x wr HI1.out (by omega))
        obtain ⟨y, hy⟩ : ∃ y, y = c.S[k] := ⟨_, rfl⟩
        rw [← hy] at hcell hst
        clear hy hkx HX KB
        by_cases hr : y < 1 ∨ 65535 < y
        · rw [if_pos hr] at hst
          have HC := Lib.hid (HCB.out 3 (by decide) hst)
          have d1 : inB 1 y 65535 = false := inF (by omega)
          clear hst HCB hr
          go_wp2_with (first | (go_at_call 51; refine (within_any _ _ _ _).mono ?_; rintro e w2 ⟨rfl, rfl⟩))
          go_ret
          exact ⟨by rw [HC.out]; rfl, hb1⟩
        · rw [if_neg hr] at hst
          have d1 : inB 1 y 65535 = true := inT (by omega)
          clear hr
          by_cases hm : y ∈ c.S.take k
          · rw [if_pos hm] at hst
            have HC := Lib.hid (HCB.out 12 (by decide) hst)
            have d2 : decide (y ∈ c.S.take k) = true := decide_eq_true hm
            clear hst HCB hm
            go_wp2_with (first | (go_at_call 51; refine (within_any _ _ _ _).mono ?_; rintro e w2 ⟨rfl, rfl⟩) | (go_at_call 52; refine (KC.out _).mono ?_; rintro e w2 ⟨rfl, rfl⟩))
            go_ret
            exact ⟨by rw [HC.out]; rfl, hb1⟩
          · rw [if_neg hm] at hst
            have d2 : decide (y ∈ c.S.take k) = false := decide_eq_false hm
            have HS := Lib.hid hst
            clear hst hm
            go_wp2_with (first | (go_at_call 51; refine (within_any _ _ _ _).mono ?_; rintro e w2 ⟨rfl, rfl⟩) | (go_at_call 52; refine (KC.out _).mono ?_; rintro e w2 ⟨rfl, rfl⟩))
            go_roundw
            case rel => exact ⟨k + 1, by omega, by go_num, HS, by trivial⟩
            case measure => simp [intOf]; omega
      · have hst := HX.out
        rw [List.drop_eq_nil_of_le (by have := HN.out; omega), srvs] at hst
        have HC := Lib.hid (HCO.out hst)
        have KM1 := Lib.hid (KM.out wr HI1.out)
        clear hst HX KB KM HCO
        cases hmay : cmay c with
        | true =>
          go_wp2_with (go_at_call 53; refine KM1.out.mono ?_; rintro e w2 ⟨rfl, hb2⟩)
          go_ret
          exact ⟨by rw [HC.out, if_pos hmay]; rfl, hb1.trans (hb2.mono hb1.size)⟩
        | false =>
          go_wp2_with (go_at_call 53; refine KM1.out.mono ?_; rintro e w2 ⟨rfl, hb2⟩)
          go_ret
          exact ⟨by rw [HC.out, hmay]; rfl, hb1.trans (hb2.mono hb1.size)⟩
set_option maxRecDepth 100000 in
set_option maxHeartbeats 4000000 in
/-- Of a config with too many servers, however many. -/
theorem check_long (v : Value) (c : Cfg) (w : World) (h : Ints w v c.S) (hl : 16 < c.S.length) :
    Calls Try.prog 29 #[cval v c] w fun e w' => e = .returned (.int .i64 (checkOf c : Nat)) ∧ Below w.heap.size w w' := by
  obtain ⟨A, cp, rfl, hc⟩ := h.len
  have h0 : c.S ≠ [] := fun e => by rw [e] at hl; simp at hl
  have HC := Lib.hid (check_full c h0 hl)
  obtain ⟨N, hN⟩ : ∃ N, N = c.S.length := ⟨_, rfl⟩
  rw [← hN] at hl hc ⊢
  clear h h0 hN
  unfold cval
  go_enter Try.func29, Try.ntmps29
  go_wp2
  go_ret
  exact ⟨by rw [HC.out]; rfl, (Below.refl _ _).alloc (Nat.le_refl _) _⟩
theorem check_all (v : Value) (c : Cfg) (w : World) (h : Ints w v c.S) :
    Calls Try.prog 29 #[cval v c] w fun e w' => e = .returned (.int .i64 (checkOf c : Nat)) ∧ Below w.heap.size w w' := by
  by_cases hl : 16 < c.S.length
  · exact check_long v c w h hl
  · exact check_any v c w h (by omega)
end Go.Proofs.Ytfknefpfekjnnaa
