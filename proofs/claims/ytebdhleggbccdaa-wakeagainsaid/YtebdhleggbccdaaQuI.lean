/- Due of a queue of int64 keys. -/
import Derived.Test.YtebdhleggbccdaaQdI
namespace Go.Proofs.Ytebdhleggbccdaa.ki
open Go.RowKit Go.Maps

theorem info_k : (Try.prog.info? 2).map (fun i => (i.zero, i.size, i.bytes)) = some (some (.int .i64 0), 1, 8) := by kernel_rfl
def keysOf (l : List (En Int)) : List Value := l.map fun e => (.int .i64 e.1)
/-- The keys are laid into a new list. -/
def Filled (w wr : World) (H n k : Nat) (l : List (En Int)) : Prop := Below w.heap.size w wr ∧ ∃ cur : Array Value, wr.heap[H]? = some (.cells cur 2 (0, 0)) ∧ cur.size = n ∧ ∀ j x, j < k → l[j]? = some x → cur[j]? = some (.int .i64 x.1)
theorem Filled.done {w wr : World} {H n : Nat} {l : List (En Int)} (h : Filled w wr H n n l) (hn : l.length = n) : Lies wr (some ⟨H, 0, none⟩) (keysOf l) := by
  obtain ⟨_, cur, e1, e2, e3⟩ := h
  refine .inr ⟨H, 0, rfl, heap_lt e1, fun j v hv => ?_⟩
  rw [cell_of_row _ _ _ _ _ _ e1, Nat.zero_add]
  rw [keysOf, List.getElem?_map, Option.map_eq_some_iff] at hv
  obtain ⟨z, hz, rfl⟩ := hv
  exact e3 j z (by have := (List.getElem?_eq_some_iff.1 hz).1; omega) hz
theorem Filled.step {w wr : World} {H n k : Nat} {l : List (En Int)} (h : Filled w wr H n k l) (hH : w.heap.size ≤ H) {x : En Int} (hx : l[k]? = some x) (hk : k < n) (O : Obj) : Filled w ((wr.alloc O).setCell ⟨H, k, none⟩ (.int .i64 x.1)) H n (k + 1) l := by
  obtain ⟨hb, cu, e1, e2, e3⟩ := h
  have h1 := hb.alloc hb.size O
  have e4 : (wr.alloc O).heap[H]? = some (.cells cu 2 (0, 0)) := (((Below.refl wr.heap.size wr).alloc (Nat.le_refl _) O).block _ (heap_lt e1)).trans e1
  refine ⟨⟨h1.os, h1.tape, h1.output, by have := h1.size; simpa [World.setCell] using this, fun j hj => by rw [Below.heap_setCell _ _ _ _ (by show j ≠ H; omega)]; exact h1.block j hj⟩, _, heap_setCell_same _ _ _ _ _ _ _ e4, by simpa using e2, fun j z hj hz => ?_⟩
  rw [Array.getElem?_setIfInBounds]
  by_cases hjk : k = j
  · subst hjk
    rw [hx] at hz
    injection hz with hz
    subst hz
    rw [if_pos rfl, if_pos (by omega)]
  · rw [if_neg hjk]
    exact e3 j z (by omega) hz
/-- What Due leaves. -/
def DuePost (w : World) (l : List (En Int)) (e : Ending) (w' : World) : Prop := ∃ H, e = .returned (.slice (some ⟨H, 0, none⟩) l.length l.length) ∧ w.heap.size ≤ H ∧ Lies w' (some ⟨H, 0, none⟩) (keysOf l) ∧ Below w.heap.size w w'
set_option maxRecDepth 100000 in
set_option maxHeartbeats 4000000 in
theorem due_core {w : World} {q : Value} {lim : Int} {l : List (En Int)} (hn : l.length ≤ 1000)
    (hu : Calls Try.prog 34 #[q, .int .i64 lim] w fun e w' => ∃ A c, e = .returned (.slice A l.length c) ∧ Below w.heap.size w w' ∧
      Calls Try.prog 35 #[.slice A l.length c, .func (.func 36) #[] #[]] w' fun e w'' => e = .returned (.tuple #[]) ∧ Lies w'' A (flat enE l) ∧ Below w.heap.size w w'') :
    Calls Try.prog 27 #[q, .int .i64 lim] w fun e w' => DuePost w l e w' := by
  obtain ⟨i0, hi0, hz0, hz1, hz2⟩ := info_parts info_k
  obtain ⟨n, hln⟩ : ∃ n, n = l.length := ⟨_, rfl⟩
  unfold DuePost
  rw [← hln] at hu hn ⊢
  have HN := Lib.hid hln
  clear hln
  go_enter Try.func27, Try.ntmps27
  go_wp2_with fail
  refine hu.mono ?_
  rintro e w1 ⟨A, c, rfl, hb1, hs1⟩
  have S1 := Lib.hid hs1
  clear hs1 hu hb1
  go_wp2_with fail
  refine S1.out.mono ?_
  rintro e w2 ⟨rfl, hl2, hb2⟩
  have R2 := Lib.hid (And.intro hl2 hb2)
  have hsz := hb2.size
  clear hl2 hb2 S1
  go_wp2_with (at_make; refine wpList_make_full _ rfl (.tmp 15) (.tmp 15) 46 rfl w2.heap.size 2 i0 _ 1 Try.underlying46 hi0 hz0 hz1 .i64 .i64 _ _ n rfl rfl rfl rfl (by rw [hz2]; omega) (by unfold maxLen; omega) (Nat.le_refl _) ?_; intro w3 ho hg; have hb3 : Below w2.heap.size w2 w3 := Below.grown (Below.refl _ _) hg (Nat.le_refl _) (by simp); obtain ⟨cur, g1, g2⟩ := own_new ho; have G := Lib.hid (And.intro hb3 (And.intro g1 g2)); clear ho hg hb3 g1 g2)
  go_loopw [19] (fun v19 wr => ∃ k : Nat, k ≤ n ∧ v19 = .int .i64 (k : Int) ∧ Hid (Filled w2 wr w2.heap.size n k l)) (fun s _ => n - (intOf s).toNat)
  case atStart => exact ⟨0, by omega, rfl, Lib.hid ⟨G.out.1, _, G.out.2.1, by have := G.out.2.2; simpa using this, fun j x hj => by omega⟩⟩
  case round =>
    clear G
    obtain ⟨k, hk, rfl, R⟩ := hrel
    by_cases hlt : k < n
    · obtain ⟨x, hx⟩ : ∃ x, l[k]? = some x := ⟨l[k]'(by have := HN.out; omega), List.getElem?_eq_getElem _⟩
      obtain ⟨g, o, rfl, hg, hc⟩ := (R2.out.1.later R.out.1).at enE_len (by omega) hx
      have c0 : wr.cell? ⟨g, o + k * 3, none⟩ = some (.int .i64 x.1) := hc 0 _ rfl
      have c1 : wr.cell? ⟨g, o + k * 3 + 1, none⟩ = some (.int .i64 x.2.1) := hc 1 _ rfl
      have c2 : wr.cell? ⟨g, o + k * 3 + 2, none⟩ = some (.int .i64 x.2.2) := hc 2 _ rfl
      obtain ⟨hbr, cu, e1, e2, e3⟩ := R.out
      obtain ⟨y, hy⟩ : ∃ y, cu[k]? = some y := ⟨cu[k]'(by omega), Array.getElem?_eq_getElem _⟩
      have f1 : ∀ O, (wr.alloc O).cell? ⟨w2.heap.size, k, none⟩ = some y := fun O => (World.cell?_alloc_lt _ _ _ (heap_lt e1)).trans (by rw [cell_of_row _ _ _ _ _ _ e1]; exact hy)
      have f2 : ∀ O, (wr.alloc O).frozen? ⟨w2.heap.size, k, none⟩ = false := fun O => frozen_row ((((Below.refl wr.heap.size wr).alloc (Nat.le_refl _) O).block _ (heap_lt e1)).trans e1) k
      have HX := Lib.hid (And.intro hx hg)
      clear hc hbr e1 e2 e3 hx hy hg
      go_wp2
      have s1 := R.out.step (Nat.le_refl _) HX.out.1 hlt (Obj.cells #[(.int .i64 x.1), .int .i64 x.2.1, .int .i64 x.2.2] 80)
      refine ⟨⟨k + 1, by omega, by go_num, Lib.hid s1⟩, ?_⟩
      simp [intOf]; omega
    · obtain rfl : k = n := by omega
      go_wp2
      go_ret
      exact ⟨_, rfl, hsz, R.out.done HN.out.symm, bel_trans R2.out.2 R.out.1⟩
set_option maxHeartbeats 1000000 in
theorem due_any {w : World} {base b m s : Nat} {L : List (En Int)} (h : Q w base b m s L) (hL : L.length ≤ 1000) (lim : Int) :
    Calls Try.prog 27 #[.pointer (some ⟨b, 0, none⟩), .int .i64 lim] w fun e w' => DuePost w (dueQ lim L) e w' := by
  refine due_core (by have := length_dueQ lim L; omega) ((upTo_any h hL lim).mono ?_)
  rintro e w' ⟨v, es, rfl, hp, ho, hb⟩
  have hl : es.length = (dueQ lim L).length := by unfold dueQ; rw [List.length_mergeSort]; exact hp.length_eq
  obtain ⟨A, c, rfl, _, _⟩ := own_len ho
  refine ⟨A, c, by rw [hl], hb, ?_⟩
  by_cases h0 : es.length = 0
  · have e0 : dueQ lim L = [] := List.eq_nil_of_length_eq_zero (by omega)
    rw [← hl, h0, e0]
    refine (sort_none _ _ _ _).mono ?_
    rintro e w'' ⟨rfl, rfl⟩
    exact ⟨rfl, .inl rfl, hb⟩
  · rcases ho.2 with ⟨_, h1⟩ | ⟨g, cp, cur, e1, hg, _⟩
    · exact absurd h1 h0
    · injection e1 with e1 _ e3
      subst e1 e3
      rw [← hl]
      refine (sort_any es (by omega) (by have := length_dueQ lim L; omega) ho).mono ?_
      rintro e w'' ⟨rfl, l, h2, h3, h4, h5⟩
      rw [due_unique h.ok (h2.trans hp) h3] at h4
      exact ⟨rfl, h4, h5 _ hg _ hb⟩
theorem due_nil (lim : Int) (w : World) : Calls Try.prog 27 #[.pointer none, .int .i64 lim] w fun e w' => DuePost w ([] : List (En Int)) e w' := by
  refine due_core (by simp) ((upTo_nil lim w).mono ?_)
  rintro e w' ⟨rfl, rfl⟩
  refine ⟨none, 0, rfl, Below.refl _ _, (sort_none _ _ _ _).mono ?_⟩
  rintro e w'' ⟨rfl, rfl⟩
  exact ⟨rfl, .inl rfl, Below.refl _ _⟩
end Go.Proofs.Ytebdhleggbccdaa.ki
