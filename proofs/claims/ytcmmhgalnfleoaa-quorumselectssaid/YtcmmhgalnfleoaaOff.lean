/- Offsets of votes; the law's votes; Choose. -/
import Derived.Test.YtcmmhgalnfleoaaVt
import Derived.Test.YtcmmhgalnfleoaaApp
namespace Go.Proofs.Ytcmmhgalnfleoaa
open Go.RowKit

theorem info_v : (Try.prog.info? 48).map (fun i => (i.zero, i.size, i.bytes)) = some (some (.agg #[.int .i64 0, .int .i64 0, .int .i64 0, .int .i64 0, .int .i64 0, .int .i64 0]), 6, 48) := by kernel_rfl

/-- A number is stored into a block of the call's own, behind a new one. -/
theorem set_own {w wr : World} {cu : Array Value} {H k : Nat} {t : TypeId} {v : Value} (hb : Below w.heap.size w wr) (hH : w.heap.size ≤ H) (e : wr.heap[H]? = some (.cells cu t (0, 0))) (O : Obj) :
    Below w.heap.size w ((wr.alloc O).setCell ⟨H, k, none⟩ v) ∧ ((wr.alloc O).setCell ⟨H, k, none⟩ v).heap[H]? = some (.cells (cu.setIfInBounds k v) t (0, 0)) := by
  have h1 := hb.alloc hb.size O
  have e1 : (wr.alloc O).heap[H]? = some (.cells cu t (0, 0)) := (((Below.refl wr.heap.size wr).alloc (Nat.le_refl _) O).block _ (heap_lt e)).trans e
  exact ⟨⟨h1.os, h1.tape, h1.output, by have := h1.size; simpa [World.setCell] using this, fun j hj => by rw [Below.heap_setCell _ _ _ _ (by show j ≠ H; omega)]; exact h1.block j hj⟩, heap_setCell_same _ _ _ _ _ _ _ e1⟩

set_option maxRecDepth 100000 in
set_option maxHeartbeats 4000000 in
theorem offs_any {w : World} {A : Option Addr} {c : Nat} (vs : List Vt) (hb : vs.length ≤ 1000) (h : Vts w A vs) :
    Calls Try.prog 19 #[.slice A vs.length c] w fun e w' => ∃ B d, e = .returned (.slice B vs.length d) ∧ Lies w' B ((vs.map Vt.o).map I) ∧ Below w.heap.size w w' := by
  obtain ⟨i0, hi0, hz0, hz1, hz2⟩ := info_parts info_i
  obtain ⟨n, hn⟩ : ∃ n, n = vs.length := ⟨_, rfl⟩
  rw [← hn] at hb ⊢
  have HN := Lib.hid hn
  have HC := Lib.hid h
  clear h hn
  go_enter Try.func19, Try.ntmps19
  go_wp2_with (at_make; refine wpList_make_full _ rfl (.tmp 7) (.tmp 7) 22 rfl w.heap.size 2 i0 (.int .i64 0) 1 Try.underlying22 hi0 hz0 hz1 .i64 .i64 _ _ n rfl rfl rfl rfl (by rw [hz2]; omega) (by unfold maxLen; omega) (Nat.le_refl _) ?_; intro w1 ho hg; have hb1 : Below w.heap.size w w1 := Below.grown (Below.refl _ _) hg (Nat.le_refl _) (by simp); obtain ⟨cur, g1, g2⟩ := own_new ho; have G := Lib.hid (And.intro hb1 (And.intro g1 g2)); clear ho hg hb1 g1 g2)
  go_loopw [11] (fun v11 wr => ∃ k : Nat, k ≤ n ∧ v11 = .int .i64 (k : Int) ∧ Hid (Below w.heap.size w wr ∧ ∃ cur : Array Value, wr.heap[w.heap.size]? = some (.cells cur 2 (0, 0)) ∧ cur.size = n ∧ ∀ j x, j < k → vs[j]? = some x → cur[j]? = some (I x.o))) (fun s _ => n - (intOf s).toNat)
  case atStart => exact ⟨0, by omega, rfl, Lib.hid ⟨G.out.1, _, G.out.2.1, by have := G.out.2.2; simpa using this, fun j x hj => by omega⟩⟩
  case round =>
    clear G
    obtain ⟨k, hk, rfl, R⟩ := hrel
    by_cases hlt : k < n
    · obtain ⟨x, hx⟩ : ∃ x, vs[k]? = some x := ⟨vs[k]'(by have := HN.out; omega), List.getElem?_eq_getElem _⟩
      obtain ⟨g, o, rfl, hg, c0, c1, c2, c3, c4, c5⟩ := (HC.out.later R.out.1).at6 hx
      obtain ⟨hbr, cu, e1, e2, e3⟩ := R.out
      obtain ⟨y, hy⟩ : ∃ y, cu[k]? = some y := ⟨cu[k]'(by omega), Array.getElem?_eq_getElem _⟩
      have f1 : ∀ O, (wr.alloc O).cell? ⟨w.heap.size, k, none⟩ = some y := fun O => (World.cell?_alloc_lt _ _ _ (heap_lt e1)).trans (by rw [cell_of_row _ _ _ _ _ _ e1]; exact hy)
      have f2 : ∀ O, (wr.alloc O).frozen? ⟨w.heap.size, k, none⟩ = false := fun O => frozen_row ((((Below.refl wr.heap.size wr).alloc (Nat.le_refl _) O).block _ (heap_lt e1)).trans e1) k
      have HH := Lib.hid (And.intro hbr (And.intro e1 (And.intro e2 (And.intro e3 (And.intro hx hg)))))
      clear hbr e1 e2 e3 hx hy
      go_wp2
      obtain ⟨hbr, e1, e2, e3, hx, hg⟩ := HH.out
      obtain ⟨s1, s2⟩ := set_own (k := k) (v := .int .i64 x.o) hbr (Nat.le_refl _) e1 (Obj.cells #[.int .i64 x.s, .int .i64 x.p.o, .int .i64 x.p.d, .int .i64 x.p.t, .int .i64 x.p.s, .int .i64 x.o] 48)
      refine ⟨⟨k + 1, by omega, by go_num, Lib.hid ⟨s1, _, s2, by simpa using e2, fun j z hj hz => ?_⟩⟩, ?_⟩
      · rw [Array.getElem?_setIfInBounds]
        by_cases hjk : k = j
        · subst hjk
          rw [hx] at hz
          injection hz with hz
          subst hz
          rw [if_pos rfl, if_pos (by omega)]
        · rw [if_neg hjk]
          exact e3 j z (by omega) hz
      · simp [intOf]; omega
    · obtain rfl : k = n := by omega
      go_wp2
      go_ret
      obtain ⟨hbr, cu, e1, e2, e3⟩ := R.out
      refine ⟨_, _, rfl, .inr ⟨_, _, rfl, heap_lt e1, fun j v hv => ?_⟩, hbr⟩
      rw [cell_of_row _ _ _ _ _ _ e1, Nat.zero_add]
      rw [List.map_map, List.getElem?_map, Option.map_eq_some_iff] at hv
      obtain ⟨z, hz, rfl⟩ := hv
      exact e3 j z (by have := (List.getElem?_eq_some_iff.1 hz).1; have := HN.out; omega) hz

set_option maxRecDepth 100000 in
set_option maxHeartbeats 4000000 in
theorem votes_any {w : World} {A : Option Addr} {c : Nat} (xs : List Int) (hb : xs.length ≤ 1000) (h : Lies w A (xs.map I)) :
    Calls Try.prog 11 #[.slice A xs.length c] w fun e w' => ∃ v, e = .returned v ∧ w'.ownsRow w.heap.size 48 6 v xs.length (vflat (mkv 0 xs)) ∧ Below w.heap.size w w' := by
  obtain ⟨i0, hi0, hz0, hz1, hz2⟩ := info_parts info_v
  obtain ⟨n, hn⟩ : ∃ n, n = xs.length := ⟨_, rfl⟩
  rw [← hn] at hb ⊢
  have HN := Lib.hid hn
  have HC := Lib.hid h
  clear h hn
  go_enter Try.func11, Try.ntmps11
  go_wp2
  go_loopw [3, 8] (fun v3 v8 wr => ∃ k : Nat, k ≤ n ∧ v8 = .int .i64 (k : Int) ∧ Hid (wr.ownsRow w.heap.size 48 6 v3 k (vflat (mkv 0 (xs.take k))) ∧ Below w.heap.size w wr)) (fun _ s _ => n - (intOf s).toNat)
  case atStart => exact ⟨0, by omega, rfl, Lib.hid ⟨World.ownsRow_nil _ _ _ _, Below.refl _ _⟩⟩
  case round =>
    obtain ⟨k, hk, rfl, R⟩ := hrel
    by_cases hlt : k < n
    · obtain ⟨x, hx⟩ : ∃ x, xs[k]? = some x := ⟨xs[k]'(by have := HN.out; omega), List.getElem?_eq_getElem _⟩
      obtain ⟨g, o, rfl, c0⟩ := (HC.out.later R.out.2).cell (k := k) (v := .int .i64 x) (by rw [List.getElem?_map, hx]; rfl)
      have e := mkv_snoc (xs.take k) 0 x
      rw [List.length_take_of_le (by have := HN.out; omega), Nat.zero_add, ← take_snoc hx] at e
      have HX := Lib.hid e
      clear hx e
      obtain ⟨A3, c3, rfl, _, _⟩ := own_len R.out.1
      go_wp2_with (at_builtin; go_loud (refine wpList_append_lies _ rfl (.tmp 13) (.tmp 17) 27 rfl w.heap.size 48 i0 (.agg #[.int .i64 0, .int .i64 0, .int .i64 0, .int .i64 0, .int .i64 0, .int .i64 0]) 6 48 Try.underlying27 hi0 hz0 hz1 hz2 rfl (by decide) (.slice A3 k c3) k _ rfl (own_below R.out.1 ((Below.refl _ _).alloc (Nat.le_refl _) _) (Nat.le_refl _)) ⟨wr.heap.size, 0, none⟩ 1 1 (Vt.mk k Sm.zero x).cells rfl rfl (World.news_of_block (cs := (Vt.mk k Sm.zero x).cells.toArray) (heap_alloc_new _ _)) (vflat_one' _) (by decide) (by unfold maxLen; omega) (by omega) (by have := R.out.2.size; simp; omega) _ rfl ?_); intro p1 cp1 w2 ho1 hg1 hat1 _; have H2 := Lib.hid (And.intro ho1 (bel_grown6 (R.out.2.alloc R.out.2.size _) (own_below R.out.1 ((Below.refl _ _).alloc (Nat.le_refl _) _) (Nat.le_refl _)) (Nat.le_refl _) hg1)); clear ho1 hg1 hat1)
      refine ⟨⟨k + 1, by omega, by go_num, Lib.hid ⟨?_, H2.out.2⟩⟩, ?_⟩
      · rw [HX.out, vflat_append, vflat_one]; exact H2.out.1
      · simp [intOf]; omega
    · obtain rfl : k = n := by omega
      go_wp2
      go_ret
      have e : xs.take k = xs := List.take_of_length_le (by have := HN.out; omega)
      have := R.out
      rw [e] at this
      exact ⟨_, rfl, this.1, this.2⟩
end Go.Proofs.Ytcmmhgalnfleoaa
