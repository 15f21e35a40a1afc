/- The document's Of and Rank. -/
import Derived.Test.YtleghbhgddlehaaRef
namespace Go.Proofs.Ytleghbhgddlehaa
open Go.RowKit Go.Sort

theorem rof_any {w : World} {Ad : Option Addr} {c : Nat} (xs : List Int) (h0 : 0 < xs.length) (hb : xs.length ≤ 1000) (h : Lies w Ad (xs.map I)) :
    Calls Try.prog 10 #[.slice Ad xs.length c] w fun e w' => e = .returned (.tuple #[.int .i64 (mid xs), .int .i64 0]) ∧ Below w.heap.size w w' := by
  unfold mid
  obtain ⟨n, hn⟩ : ∃ n, n = xs.length := ⟨_, rfl⟩
  obtain ⟨k, hk⟩ : ∃ k : Nat, k = (n - 1) / 2 := ⟨_, rfl⟩
  have hkn : k < n := by omega
  have hq : (((n : Int) - 1) / 2) = (k : Int) := by omega
  have K := Lib.hid (rsorted_any (c0 := c) xs hb h)
  rw [← hn] at K hb h0 ⊢
  rw [← hk]
  have hx := map_getD I (xs.mergeSort leI) k 0 (by rw [List.length_mergeSort]; omega)
  generalize (xs.mergeSort leI).getD k 0 = m at hx ⊢
  have HX := Lib.hid hx
  clear h hk hn hx
  go_enter Try.func10, Try.ntmps10
  go_wp2_with fail
  refine K.out.mono ?_
  rintro e w1 ⟨v, rfl, ho, hb1⟩
  obtain ⟨g, cp, rfl, hcp, hcell⟩ := own_cell ho HX.out
  have HB := Lib.hid hb1
  clear K hb1 ho HX
  go_wp2
  go_ret2
  exact ⟨rfl, HB.out⟩
theorem rof_none (w : World) (Ad : Option Addr) (c : Nat) : Calls Try.prog 10 #[.slice Ad 0 c] w fun e w' => e = .returned (.tuple #[.int .i64 0, .int .i64 4]) ∧ w = w' := by
  go_enter Try.func10, Try.ntmps10
  go_wp2
  go_ret2
  exact ⟨rfl, rfl⟩
theorem rrank_any {w : World} {Ad : Option Addr} {c : Nat} (x : Int) (xs : List Int) (hb : xs.length ≤ 1000000) (h : Lies w Ad (xs.map I)) :
    Calls Try.prog 14 #[.int .i64 x, .slice Ad xs.length c] w fun e w' => e = .returned (.tuple #[.int .i64 (xs.countP (fun y => decide (y < x)) : Nat), .int .i64 (xs.countP (fun y => decide (y ≤ x)) : Nat)]) ∧ w = w' := by
  obtain ⟨n, hn⟩ : ∃ n, n = xs.length := ⟨_, rfl⟩
  rw [← hn] at hb ⊢
  have HN := Lib.hid hn
  have HC := Lib.hid h
  clear h hn
  go_enter Try.func14, Try.ntmps14
  go_wp2
  go_loop [6, 7, 8] (fun b u i => ∃ k p q : Nat, k ≤ n ∧ p ≤ k ∧ q ≤ k ∧ Hid (p = (xs.take k).countP (fun y => decide (y < x))) ∧ Hid (q = (xs.take k).countP (fun y => decide (y ≤ x))) ∧ i = .int .i64 k ∧ b = .int .i64 p ∧ u = .int .i64 q) (fun _ _ i => n - (intOf i).toNat)
  case atStart => exact ⟨0, 0, 0, Nat.zero_le _, Nat.le_refl _, Nat.le_refl _, Lib.hid (by simp), Lib.hid (by simp), rfl, rfl, rfl⟩
  case round =>
    obtain ⟨k, p, q, hk, hp, hq, HP, HQ, rfl, rfl, rfl⟩ := hrel
    by_cases hlt : k < n
    · obtain ⟨y, hy⟩ : ∃ y, xs[k]? = some y := ⟨xs[k]'(by have := HN.out; omega), List.getElem?_eq_getElem _⟩
      obtain ⟨g, o, rfl, hcell⟩ := HC.out.cell (k := k) (v := .int .i64 y) (by rw [List.getElem?_map, hy]; rfl)
      have s1 := count_snoc (fun y => decide (y < x)) xs k y hy
      have s2 := count_snoc (fun y => decide (y ≤ x)) xs k y hy
      rw [← HP.out] at s1
      rw [← HQ.out] at s2
      have S := Lib.hid (And.intro s1 s2)
      clear s1 s2 hy
      by_cases c1 : y < x
      · have c2 : y ≤ x := by omega
        go_wp2
        go_round
        case rel => exact ⟨k + 1, p + 1, q + 1, by omega, by omega, by omega, Lib.hid (by have := S.out.1; simp [c1] at this; omega), Lib.hid (by have := S.out.2; simp [c2] at this; omega), by go_num, by go_num, by go_num⟩
        case measure => simp [intOf]; omega
      · by_cases c2 : y ≤ x
        · go_wp2
          go_round
          case rel => exact ⟨k + 1, p, q + 1, by omega, by omega, by omega, Lib.hid (by have := S.out.1; simp [c1] at this; omega), Lib.hid (by have := S.out.2; simp [c2] at this; omega), by go_num, rfl, by go_num⟩
          case measure => simp [intOf]; omega
        · go_wp2
          go_round
          case rel => exact ⟨k + 1, p, q, by omega, by omega, by omega, Lib.hid (by have := S.out.1; simp [c1] at this; omega), Lib.hid (by have := S.out.2; simp [c2] at this; omega), by go_num, rfl, rfl⟩
          case measure => simp [intOf]; omega
    · go_wp2
      go_ret2
      have e : xs.take k = xs := List.take_of_length_le (by have := HN.out; omega)
      rw [HP.out, HQ.out, e]
      exact ⟨rfl, rfl⟩
set_option maxRecDepth 100000 in
theorem clone_zero (w : World) (a : Addr) (c : Nat) : Calls Try.prog 19 #[.slice (some a) 0 c] w fun e w' => ∃ A c', e = .returned (.slice A 0 c') ∧ Below w.heap.size w w' := by
  obtain ⟨W, hW⟩ : ∃ W, W = w.alloc (.cells #[] 2) := ⟨_, rfl⟩
  have hbW : Below w.heap.size w W := by rw [hW]; exact (Below.refl _ _).alloc (Nat.le_refl _) _
  have ho : W.ownsRow w.heap.size 2 1 (.slice (some ⟨w.heap.size, 0, none⟩) 0 0) 0 (([] : List Int).map I) := by rw [hW]; exact own_empty w 2
  have HB := Lib.hid hbW
  have HO := Lib.hid ho
  have HW := Lib.hid hW
  clear hW hbW ho
  have q22 : ∀ w : World, (binOp .eql 22 (.slice (some a) 0 c) (.slice none 0 0)).run Try.prog w = .ok (.bool false) w := fun w => Lib.run_eql_slice_nil w _ _ (some a) 0 c 0 0 Try.underlying22
  go_enter Try.func19, Try.ntmps19
  go_wp2_with (at_builtin; rw [← HW.out]; refine app_i rfl (.tmp 5) (.tmp 6) rfl w.heap.size _ 0 [] rfl HO.out (some a) 0 c [] rfl rfl (fun h => by cases h) (.inl rfl) (by omega) HB.out.size ?_; intro v1 w1 ho1 hg1 _; have H1 := Lib.hid (bel_grown HB.out HO.out (Nat.le_refl _) hg1); have HO1 := Lib.hid ho1; clear ho1 hg1)
  go_ret
  obtain ⟨A, c', rfl, _⟩ := own_len HO1.out
  exact ⟨A, c', rfl, H1.out⟩
/-- Sorted of none. -/
theorem sorted_none (w : World) (Ad : Option Addr) (c : Nat) (hA : Ad = none → c = 0) : Calls Try.prog 11 #[.slice Ad 0 c] w fun e w' => ∃ A c', e = .returned (.slice A 0 c') ∧ Below w.heap.size w w' := by
  have K : Hid (Calls Try.prog 19 #[.slice Ad 0 c] w fun e w' => ∃ A c', e = .returned (.slice A 0 c') ∧ Below w.heap.size w w') := by
    refine Lib.hid ?_
    cases Ad with
    | none =>
      refine (Try.slices_Clone_nil_f19 0 c w).mono ?_
      rintro e w' ⟨rfl, rfl⟩
      exact ⟨none, 0, rfl, Below.refl _ _⟩
    | some a => exact clone_zero w a c
  clear hA
  go_enter Try.func11, Try.ntmps11
  go_wp2_with fail
  refine K.out.mono ?_
  rintro e w1 ⟨A, c', rfl, hb1⟩
  have HB := Lib.hid hb1
  clear hb1 K
  go_wp2_with fail
  refine (Try.slices_Sort_int_none_f20 A c' w1).mono ?_
  rintro e w' ⟨rfl, rfl⟩
  go_wp2
  go_ret
  exact ⟨A, c', rfl, HB.out⟩
end Go.Proofs.Ytleghbhgddlehaa
