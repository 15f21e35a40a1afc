/- What Rank and Spread answer. -/
import Derived.Test.YtleghbhgddlehaaMed
import Derived.Lib.Hide
namespace Go.Proofs.Ytleghbhgddlehaa
open Go.RowKit Go.Sort

theorem rank_i {w : World} {Ad : Option Addr} {c : Nat} (x : Int) (xs : List Int) (hb : xs.length ≤ 1000000) (h : Lies w Ad (xs.map (Value.int .i64))) :
    Calls Try.prog 13 #[.int .i64 x, .slice Ad xs.length c] w fun e w' => e = .returned (.tuple #[.int .i64 (xs.countP (fun y => decide (y < x)) : Nat), .int .i64 (xs.countP (fun y => decide (y ≤ x)) : Nat)]) ∧ w = w' := by
  obtain ⟨n, hn⟩ : ∃ n, n = xs.length := ⟨_, rfl⟩
  rw [← hn] at hb ⊢
  have HN := Lib.hid hn
  have HC := Lib.hid h
  clear h hn
  go_enter Try.func13, Try.ntmps13
  go_wp2
  go_loop [6, 7, 12] (fun b u i => ∃ k p q : Nat, k ≤ n ∧ p ≤ k ∧ q ≤ k ∧ Hid (p = (xs.take k).countP (fun y => decide (y < x))) ∧ Hid (q = (xs.take k).countP (fun y => decide (y ≤ x))) ∧ i = .int .i64 k ∧ b = .int .i64 p ∧ u = .int .i64 q) (fun _ _ i => n - (intOf i).toNat)
  case atStart => exact ⟨0, 0, 0, Nat.zero_le _, Nat.le_refl _, Nat.le_refl _, Lib.hid (by simp), Lib.hid (by simp), rfl, rfl, rfl⟩
  case round =>
    obtain ⟨k, p, q, hk, hp, hq, HP, HQ, rfl, rfl, rfl⟩ := hrel
    by_cases hlt : k < n
    · obtain ⟨y, hy⟩ : ∃ y, xs[k]? = some y := ⟨xs[k]'(by have := HN.out; omega), List.getElem?_eq_getElem _⟩
      obtain ⟨g, o, rfl, hcell⟩ := HC.out.cell (k := k) (v := .int .i64 y) (by rw [List.getElem?_map, hy]; rfl)
      have s1 := count_snoc (fun y => decide (y < x)) xs k y hy
      have s2 := count_snoc (fun y => decide (y ≤ x)) xs k y hy
      rw [← HP.out] at s1
      rw [← HQ.out] at s2
      have S := Lib.hid (And.intro s1 s2)
      clear s1 s2 hy
      by_cases c1 : y < x
      · have c2 : y ≤ x := by omega
        go_wp2
        go_round
        case rel => exact ⟨k + 1, p + 1, q + 1, by omega, by omega, by omega, Lib.hid (by have := S.out.1; simp [c1] at this; omega), Lib.hid (by have := S.out.2; simp [c2] at this; omega), by go_num, by go_num, by go_num⟩
        case measure => simp [intOf]; omega
      · by_cases c2 : y ≤ x
        · go_wp2
          go_round
          case rel => exact ⟨k + 1, p, q + 1, by omega, by omega, by omega, Lib.hid (by have := S.out.1; simp [c1] at this; omega), Lib.hid (by have := S.out.2; simp [c2] at this; omega), by go_num, rfl, by go_num⟩
          case measure => simp [intOf]; omega
        · go_wp2
          go_round
          case rel => exact ⟨k + 1, p, q, by omega, by omega, by omega, Lib.hid (by have := S.out.1; simp [c1] at this; omega), Lib.hid (by have := S.out.2; simp [c2] at this; omega), by go_num, rfl, rfl⟩
          case measure => simp [intOf]; omega
    · go_wp2
      go_ret2
      have e : xs.take k = xs := List.take_of_length_le (by have := HN.out; omega)
      rw [HP.out, HQ.out, e]
      exact ⟨rfl, rfl⟩

theorem spread_i {w : World} {Ad : Option Addr} {c : Nat} (xs : List Int) (h0 : 0 < xs.length) (hb : xs.length ≤ 1000000) (h : Lies w Ad (xs.map (Value.int .i64))) :
    Calls Try.prog 15 #[.slice Ad xs.length c] w fun e w' => e = .returned (.tuple #[.int .i64 (Lib.minOf xs), .int .i64 (Lib.maxOf xs), .int .i64 0]) ∧ w = w' := by
  obtain ⟨g, o, rfl, hg, hc⟩ := h.open (by simpa using h0)
  have hc' : ∀ j, j < xs.length → w.cell? ⟨g, o + j, none⟩ = some (.int .i64 (xs.getD j 0)) := fun j hj => hc j _ (map_getD _ xs j 0 hj)
  have K1 := Lib.hid (Try.slices_Min_int g o xs.length c xs w h0 (Nat.le_refl _) (by omega) hc')
  have K2 := Lib.hid (Try.slices_Max_int g o xs.length c xs w h0 (Nat.le_refl _) (by omega) hc')
  rw [List.take_length] at K1 K2
  generalize Lib.minOf xs = lo at K1 ⊢
  generalize Lib.maxOf xs = hi at K2 ⊢
  generalize xs.length = n at K1 K2 h0 hb ⊢
  clear h hc hc' hg
  go_enter Try.func15, Try.ntmps15
  go_wp2_with fail
  refine K1.out.mono ?_
  rintro e w' ⟨rfl, rfl⟩
  go_wp2_with fail
  refine K2.out.mono ?_
  rintro e w' ⟨rfl, rfl⟩
  go_wp2
  exact bodyPost_ret (v := .tuple #[.int .i64 lo, .int .i64 hi, .int .i64 0]) (by simp [results, Try.results15, go_sem]) rfl ⟨rfl, rfl⟩
theorem spread_none (w : World) (Ad : Option Addr) (c : Nat) : Calls Try.prog 15 #[.slice Ad 0 c] w fun e w' => e = .returned (.tuple #[.int .i64 0, .int .i64 0, .int .i64 4]) ∧ w = w' := by
  go_enter Try.func15, Try.ntmps15
  go_wp2
  exact bodyPost_ret (v := .tuple #[.int .i64 0, .int .i64 0, .int .i64 4]) (by simp [results, Try.results15, go_sem]) rfl ⟨rfl, rfl⟩

theorem lies_new (w : World) (cs : List Value) (t : TypeId) : Lies (w.alloc (.cells cs.toArray t)) (some ⟨w.heap.size, 0, none⟩) cs := by
  refine .inr ⟨_, _, rfl, by simp, fun j v hv => ?_⟩
  rw [cell_of_row _ _ _ _ _ _ (heap_alloc_new w _)]
  simpa using hv
theorem mid_ex : ([5, 1, 9].mergeSort leI).getD 1 0 = 5 := (srt_at totI [5, 1, 9] 1 0 (by decide)).unique totI ⟨by decide, by decide⟩
theorem mid_exs : ([[53], [49], [57], [55]].mergeSort leS).getD 1 [] = [53] := (srt_at totS [[53], [49], [57], [55]] 1 [] (by decide)).unique totS ⟨by decide, by decide⟩
set_option maxHeartbeats 1000000 in
theorem alive_any (w : World) : Calls Try.prog 8 #[] w fun e w' => e = .returned (.bool true) ∧ Below w.heap.size w w' := by
  obtain ⟨W, hW⟩ : ∃ W, W = w.alloc (.cells #[.int .i64 5, .int .i64 1, .int .i64 9] 3) := ⟨_, rfl⟩
  have hbW : Below w.heap.size w W := by rw [hW]; exact (Below.refl _ _).alloc (Nat.le_refl _) _
  have K := of_n (w := W) (Ad := some ⟨w.heap.size, 0, none⟩) (c := 3) [5, 1, 9] (by decide) (by decide) (by rw [hW]; exact lies_new w _ 3)
  rw [show (([5, 1, 9] : List Int).mergeSort leI).getD ((([5, 1, 9] : List Int).length - 1) / 2) 0 = 5 from mid_ex] at K
  have HK := Lib.hid K
  have HB := Lib.hid hbW
  clear K hbW
  go_enter Try.func8, Try.ntmps8
  go_wp2_with fail
  rw [← hW]
  have HW := Lib.hid hW
  clear hW
  refine HK.out.mono ?_
  rintro e w1 ⟨rfl, hb1⟩
  have HB1 := Lib.hid (bel_trans HB.out hb1)
  clear hb1 HK
  obtain ⟨W1, hW1⟩ : ∃ W1, W1 = w1.alloc (.cells #[.string ⟨#[53]⟩, .string ⟨#[49]⟩, .string ⟨#[57]⟩, .string ⟨#[55]⟩] 9) := ⟨_, rfl⟩
  have hbW1 : Below w1.heap.size w1 W1 := by rw [hW1]; exact (Below.refl _ _).alloc (Nat.le_refl _) _
  have K := of_s (w := W1) (Ad := some ⟨w1.heap.size, 0, none⟩) (c := 4) [[53], [49], [57], [55]] (by decide) (by decide) (by rw [hW1]; exact lies_new w1 _ 9)
  rw [show (([[53], [49], [57], [55]] : List (List UInt8)).mergeSort leS).getD ((([[53], [49], [57], [55]] : List (List UInt8)).length - 1) / 2) [] = [53] from mid_exs] at K
  have HK := Lib.hid K
  have HB2 := Lib.hid (bel_trans HB1.out hbW1)
  clear K hbW1 HB1
  go_wp2_with fail
  rw [← hW1]
  have HW := Lib.hid hW1
  clear hW1
  refine HK.out.mono ?_
  rintro e w2 ⟨rfl, hb2⟩
  have HB3 := Lib.hid (bel_trans HB2.out hb2)
  clear hb2 HK
  go_wp2
  go_ret
  exact ⟨rfl, HB3.out⟩
end Go.Proofs.Ytleghbhgddlehaa
