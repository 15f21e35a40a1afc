/- same: are lines the document's? -/
import Derived.Test.YtclcnmmhmjbjjaaDoorRlines
import Derived.Deep.QuietTactic
import Derived.BigQuiet
namespace Go.Proofs.YtclcnmmhmjbjjaaDoor
open Go.RowKit Go.Proofs.Lx

theorem below_draws {w : World} (n : Nat) : Below w.heap.size w (w.drewN n) := ⟨rfl, rfl, rfl, Nat.le_refl _, fun _ _ => rfl⟩

set_option maxRecDepth 100000 in
set_option maxHeartbeats 4000000 in
theorem same_none (v1 v2 : Value) (w : World) (b1 b2 : Nat) (h1 : IsLines 41 w b1 v1 []) (h2 : IsLines 60 w b2 v2 []) :
    Calls Tryd.prog 13 #[v1, v2] w fun e w' => e = .returned (.bool true) ∧ Below w.heap.size w w' := by
  obtain ⟨A1, c1, rfl, _⟩ := h1.len
  obtain ⟨A2, c2, rfl, _⟩ := h2.len
  clear h1 h2
  simp only [List.length_nil]
  go_enter Tryd.func13, Tryd.ntmps13
  go_wp2
  go_loopw [14] (fun i wr => i = .int .i64 0 ∧ wr = w) (fun _ _ => 0)
  case atStart => exact ⟨rfl, rfl⟩
  case round =>
    obtain ⟨rfl, rfl⟩ := hrel
    go_wp2
    go_ret
    exact ⟨rfl, Below.refl _ _⟩

set_option maxRecDepth 100000 in
set_option maxHeartbeats 8000000 in
theorem same_some (v1 v2 : Value) (w : World) (b1 b2 : Nat) (L : List Ln) (hL : 0 < L.length) (hz : L.length ≤ 1000000) (hzw : ∀ (j m : Nat) (ws : List Bs), L[j]? = some (m, ws) → ws.length ≤ 1000000) (h1 : IsLines 41 w b1 v1 L) (h2 : IsLines 60 w b2 v2 L) :
    Calls Tryd.prog 13 #[v1, v2] w fun e w' => e = .returned (.bool true) ∧ Below w.heap.size w w' := by
  obtain ⟨g1, c1, rfl, hc1, hg1, k1⟩ := h1.at_ hL
  obtain ⟨g2, c2, rfl, hc2, hg2, k2⟩ := h2.at_ hL
  have K1 := Lib.hid k1
  have K2 := Lib.hid k2
  have KW := Lib.hid hzw
  clear h1 h2 k1 k2 hzw
  obtain ⟨N, hN⟩ : ∃ N, N = L.length := ⟨_, rfl⟩
  have HN := Lib.hid hN
  rw [← hN] at hL hz hc1 hc2 ⊢
  clear hN
  go_enter Tryd.func13, Tryd.ntmps13
  go_wp2
  go_loopw [14] (fun i wr => ∃ k n : Nat, k ≤ N ∧ i = .int .i64 k ∧ wr = w.drewN n) (fun i _ => N - (intOf i).toNat)
  case atStart => exact ⟨0, 0, Nat.zero_le _, rfl, rfl⟩
  case round =>
    obtain ⟨k, n, hk, rfl, rfl⟩ := hrel
    by_cases hkN : k < N
    · obtain ⟨⟨m, ws⟩, hm⟩ : ∃ x, L[k]? = some x := ⟨_, List.getElem?_eq_getElem (by have := HN.out; omega)⟩
      obtain ⟨a1, u1, a2, a3⟩ := K1.out k m ws hm
      obtain ⟨d1, u2, d2, d3⟩ := K2.out k m ws hm
      have hwz := KW.out k m ws hm
      have HA := Lib.hid a3
      have HD := Lib.hid d3
      obtain ⟨A1, e1, rfl, _⟩ := a3.len
      obtain ⟨A2, e2, rfl, _⟩ := d3.len
      rw [Nat.mul_comm] at a1 a2 d1 d2
      clear a3 d3 hm
      go_wp2
      go_quiet (fail)
      go_wp2
      go_loopw [49] (fun i wr => ∃ j n2 : Nat, j ≤ ws.length ∧ i = .int .i64 j ∧ wr = w.drewN n2) (fun i _ => ws.length - (intOf i).toNat)
      case atStart => exact ⟨0, _, Nat.zero_le _, rfl, rfl⟩
      case round =>
        obtain ⟨j, n2, hj, rfl, rfl⟩ := hrel
        by_cases hjl : j < ws.length
        · obtain ⟨x1, y1, q1, _, _, r1⟩ := HA.out.at_ (by omega)
          obtain ⟨x2, y2, q2, _, _, r2⟩ := HD.out.at_ (by omega)
          injection q1 with q1 _ q3
          injection q2 with q2 _ q4
          subst q1 q2 q3 q4
          obtain ⟨l, hl⟩ : ∃ l, ws[j]? = some l := ⟨_, List.getElem?_eq_getElem hjl⟩
          have f1 := r1 j l hl
          have f2 := r2 j l hl
          obtain ⟨p, hp, _⟩ := str_mk l
          rw [hp] at f1 f2
          clear r1 r2 hl hp
          go_wp2
          go_quiet (fail)
          go_wp2
          go_roundw
          case rel => exact ⟨j + 1, _, by omega, by go_num, rfl⟩
          case measure => simp [intOf]; omega
        · go_wp2
          go_roundw
          case rel => exact ⟨k + 1, _, by omega, by go_num, rfl⟩
          case measure => simp [intOf]; omega
    · go_wp2
      go_ret
      exact ⟨rfl, below_draws _⟩
theorem same_any (v1 v2 : Value) (w : World) (b1 b2 : Nat) (L : List Ln) (hz : L.length ≤ 1000000) (hzw : ∀ (j m : Nat) (ws : List Bs), L[j]? = some (m, ws) → ws.length ≤ 1000000) (h1 : IsLines 41 w b1 v1 L) (h2 : IsLines 60 w b2 v2 L) :
    Calls Tryd.prog 13 #[v1, v2] w fun e w' => e = .returned (.bool true) ∧ Below w.heap.size w w' := by
  by_cases hL : 0 < L.length
  · exact same_some v1 v2 w b1 b2 L hL hz hzw h1 h2
  · obtain rfl : L = [] := List.eq_nil_of_length_eq_zero (by omega)
    exact same_none v1 v2 w b1 b2 h1 h2
end Go.Proofs.YtclcnmmhmjbjjaaDoor
