/- The document's queue of texts: keys, and when they are due, in the order in which they were set. -/
import Derived.Test.YtebdhleggbccdaaLz
import Derived.Deep.QuietTactic
import Derived.BigQuiet
import Derived.Deep.RegionHeld3
import Derived.StillTailTactics
import Derived.Laws.Cover1
namespace Go.Proofs.Ytebdhleggbccdaa
open Go.RowKit

abbrev On := ByteArray × Int
abbrev enO (e : On) : List Value := [.string e.1, .int .i64 e.2]
theorem enO_len (e : On) : (enO e).length = 2 := rfl
theorem enO_one (e : On) : ∀ v ∈ enO e, v.oneCell' = true := by simp [enO, Value.oneCell']
theorem info_o : (Try.prog.info? 63).map (fun i => (i.zero, i.size, i.bytes)) = some (some (.agg #[.string ⟨#[]⟩, .int .i64 0]), 2, 24) := by kernel_rfl
theorem str_ne {x y : ByteArray} (h : x ≠ y) : (x.toList == y.toList) = false := by
  rw [beq_eq_false_iff_ne]
  intro e
  rw [ByteArray.toList_eq, ByteArray.toList_eq] at e
  exact h (ByteArray.ext (Array.toList_inj.1 e))
theorem take_snoc_l {α : Type} {l : List α} {i : Nat} {x : α} (h : l[i]? = some x) : l.take (i + 1) = l.take i ++ [x] := by rw [List.take_add_one, h]; rfl
theorem own_nil_row {w : World} {base e sz n c : Nat} {A : Option Addr} {xs : List Value} (h : w.ownsRow base e sz (.slice A n c) n xs) : A = none → n = 0 ∧ c = 0 := by
  intro hA
  subst hA
  rcases h.2 with ⟨e1, h1⟩ | ⟨_, _, _, e1, _⟩
  · injection e1 with _ _ e3
    exact ⟨h1, e3⟩
  · injection e1 with e1 _ _
    cases e1

def odrop (k : ByteArray) (R : List On) : List On := R.filter fun e => decide (e.1 ≠ k)
theorem odrop_snoc_in {k : ByteArray} {R : List On} {x : On} (h : x.1 = k) : odrop k (R ++ [x]) = odrop k R := by simp [odrop, h]
theorem odrop_snoc_out {k : ByteArray} {R : List On} {x : On} (h : x.1 ≠ k) : odrop k (R ++ [x]) = odrop k R ++ [x] := by simp [odrop, h]
structure RQ (w : World) (base b : Nat) (v : Value) (R : List On) : Prop where
  blk : w.heap[b]? = some (.cells #[v] 29 (0, 0))
  row : w.ownsRow base 63 2 v R.length (flat enO R)
  own : base ≤ b
section
variable {w w' : World} {base b : Nat} {v : Value} {R : List On}
theorem RQ.lt (h : RQ w base b v R) : b < w.heap.size := heap_lt h.blk
theorem RQ.cell (h : RQ w base b v R) : w.cell? ⟨b, 0, none⟩ = some v := by rw [cell_of_row _ _ _ _ _ _ h.blk]; rfl
theorem RQ.apart (h : RQ w base b v R) : v.ownBlock ≠ some b := fun e => by
  obtain ⟨_, _, cur, hg⟩ := own_lt h.row e
  rw [h.blk] at hg
  injection hg with hg
  injection hg with _ ht _
  exact absurd ht (by decide)
theorem RQ.below {B : Nat} (h : RQ w base b v R) (hb : Below B w w') (hB : w.heap.size ≤ B) : RQ w' base b v R :=
  ⟨(hb.block b (by have := h.lt; omega)).trans h.blk, own_below h.row hb hB, h.own⟩
theorem RQ.base_le (h : RQ w base b v R) : base ≤ w.heap.size := by have := h.own; have := h.lt; omega
/-- Another's writing leaves it. -/
theorem RQ.two {b' : Nat} {r : Option Nat} (h : RQ w base b v R) (t : Two b' r w w') (h1 : b ≠ b') (h2 : r ≠ some b) (h3 : v.ownBlock ≠ some b') (h4 : ∀ p, v.ownBlock = some p → r ≠ some p) : RQ w' base b v R :=
  ⟨(t.block b h.lt h1 (fun e => h2 e.symm)).trans h.blk, own_kept h.row fun p hp hl => t.block p hl (fun e => h3 (by rw [hp, e])) (fun e => h4 p hp e.symm), h.own⟩
/-- Its list is written anew. -/
theorem RQ.put {w1 : World} {v' : Value} {R' : List On} (h : RQ w base b v R) (hb : Below w.heap.size w w1) (ho : w1.ownsRow w.heap.size 63 2 v' R'.length (flat enO R')) :
    RQ (w1.setCell ⟨b, 0, none⟩ v') base b v' R' ∧ Two b none w (w1.setCell ⟨b, 0, none⟩ v') ∧ ∀ p, v'.ownBlock = some p → w.heap.size ≤ p := by
  have hp : ∀ p, v'.ownBlock = some p → w.heap.size ≤ p := fun p hp => (own_lt ho hp).1
  refine ⟨⟨?_, ?_, h.own⟩, (Two.of_below hb).setCell 0 _, hp⟩
  · exact heap_setCell_same w1 b 0 v' _ _ _ ((hb.block b h.lt).trans h.blk)
  · refine own_kept (own_base ho h.base_le) fun p hq _ => ?_
    exact Below.heap_setCell _ _ _ _ (by have := hp p hq; have := h.lt; show p ≠ b; omega)
end
/-- What a writing call of the document's queue leaves. -/
def RPost (w : World) (base b : Nat) (R : List On) (e : Ending) (w' : World) : Prop := e = .returned (.tuple #[]) ∧ ∃ v', RQ w' base b v' R ∧ Two b none w w' ∧ ∀ p, v'.ownBlock = some p → w.heap.size ≤ p

set_option maxRecDepth 100000 in
set_option maxHeartbeats 4000000 in
theorem rdrop_any {w : World} {base b : Nat} {v : Value} {R : List On} (h : RQ w base b v R) (hn : R.length ≤ 1000) (k : ByteArray) :
    Calls Try.prog 13 #[.pointer (some ⟨b, 0, none⟩), .string k] w fun e w' => RPost w base b (odrop k R) e w' := by
  obtain ⟨A, c, rfl, hnc, hcm⟩ := own_len h.row
  have H := Lib.hid h
  have f0 := h.cell
  clear h
  obtain ⟨n, hln⟩ : ∃ n, n = R.length := ⟨_, rfl⟩
  rw [← hln] at f0 hn hnc
  have HN := Lib.hid hln
  clear hln
  go_enter Try.func13, Try.ntmps13
  go_wp2
  go_loopw [4, 5] (fun v4 v5 wr => ∃ i : Nat, i ≤ n ∧ v5 = .int .i64 (i : Int) ∧ Hid (wr.ownsRow w.heap.size 63 2 v4 (odrop k (R.take i)).length (flat enO (odrop k (R.take i))) ∧ Below w.heap.size w wr)) (fun _ s _ => n - (intOf s).toNat)
  case atStart => exact ⟨0, by omega, rfl, Lib.hid ⟨by simpa [odrop, flat] using World.ownsRow_nil _ _ _ _, Below.refl _ _⟩⟩
  case round =>
    clear f0
    obtain ⟨i, hi, rfl, G⟩ := hrel
    have D := Lib.hid (H.out.below G.out.2 (Nat.le_refl _))
    have f0 := D.out.cell
    rw [← HN.out] at f0
    by_cases hlt : i < n
    · obtain ⟨⟨xk, xa⟩, hx⟩ : ∃ x, R[i]? = some x := ⟨R[i]'(by have := HN.out; omega), List.getElem?_eq_getElem _⟩
      obtain ⟨g, o, rfl, hg, hc⟩ := (lies_own D.out.row).at enO_len (by omega) hx
      have c0 : wr.cell? ⟨g, o + i * 2, none⟩ = some (.string xk) := hc 0 _ rfl
      have c1 : wr.cell? ⟨g, o + i * 2 + 1, none⟩ = some (.int .i64 xa) := hc 1 _ rfl
      have HX := Lib.hid (And.intro (take_snoc_l hx) hg)
      clear hc hx hg
      by_cases he : xk = k
      · subst he
        go_wp2
        refine ⟨⟨i + 1, by omega, by go_num, Lib.hid ?_⟩, ?_⟩
        · rw [HX.out.1, odrop_snoc_in (by rfl)]; exact G.out
        · simp [intOf]; omega
      · have hd := str_ne he
        have hol : (odrop k (R.take i)).length ≤ i := by unfold odrop; exact Nat.le_trans (List.length_filter_le _ _) (List.length_take_le _ _)
        obtain ⟨A4, c4, rfl, _, _⟩ := own_len G.out.1
        go_wp2_with (at_builtin; refine append_src rfl (.tmp 25) (.tmp 33) 27 rfl w.heap.size 63 _ 2 _ Try.underlying27 info_o rfl (by decide) (.slice A4 _ c4) _ _ rfl (own_below G.out.1 ((Below.refl _ _).alloc (Nat.le_refl _) _) (Nat.le_refl _)) (some ⟨wr.heap.size, 0, none⟩) 1 1 (enO (xk, xa)) rfl rfl (fun h => by cases h) (lies_new _ _ _) (enO_one _) (by unfold maxLen; omega) (by omega) (by have := G.out.2.size; simp; omega) ?_; intro v3 w3 ho3 hg3 _; have M := Lib.hid (And.intro ho3 hg3); clear ho3 hg3)
        refine ⟨⟨i + 1, by omega, by go_num, Lib.hid ⟨?_, ?_⟩⟩, ?_⟩
        · rw [HX.out.1, odrop_snoc_out (by exact he), flat_append, flat_one, List.length_append]; exact M.out.1
        · exact bel_grown (G.out.2.alloc G.out.2.size _) (by have := G.out.2.size; simp; omega) (own_below G.out.1 ((Below.refl _ _).alloc (Nat.le_refl _) _) (Nat.le_refl _)) (Nat.le_refl _) M.out.2
        · simp [intOf]; omega
    · obtain rfl : i = n := by omega
      have hz := frozen_row D.out.blk 0
      have e1 : R.take i = R := List.take_of_length_le (by have := HN.out; omega)
      have g1 := G.out.1
      rw [e1] at g1
      obtain ⟨A4, c4, rfl, _, _⟩ := own_len g1
      have G1 := Lib.hid g1
      clear e1 g1
      go_wp2
      go_end0
      obtain ⟨q1, q2, q3⟩ := H.out.put G.out.2 G1.out
      exact ⟨rfl, _, q1, q2, q3⟩
theorem oset_len {k : ByteArray} {a : Int} {R : List On} : (odrop k R ++ [(k, a)]).length ≤ R.length + 1 := by
  rw [List.length_append, List.length_singleton]
  have := List.length_filter_le (fun e : On => decide (e.1 ≠ k)) R
  unfold odrop
  omega
set_option maxRecDepth 100000 in
set_option maxHeartbeats 4000000 in
theorem rset_any {w : World} {base b : Nat} {v : Value} {R : List On} (h : RQ w base b v R) (hn : R.length ≤ 1000) (k : ByteArray) (a : Int) :
    Calls Try.prog 11 #[.pointer (some ⟨b, 0, none⟩), .string k, .int .i64 a] w fun e w' => RPost w base b (odrop k R ++ [(k, a)]) e w' := by
  have H := Lib.hid h
  have hl := Lib.hid (List.length_filter_le (fun e : On => decide (e.1 ≠ k)) R)
  clear h
  go_enter Try.func11, Try.ntmps11
  go_wp2_with fail
  refine (rdrop_any H.out hn k).mono ?_
  rintro e w1 ⟨rfl, v1, h1, t1, p1⟩
  obtain ⟨R1, hR⟩ : ∃ R1, R1 = odrop k R := ⟨_, rfl⟩
  rw [← hR] at h1
  have hn1 : R1.length ≤ 1000 := by rw [hR]; exact Nat.le_trans hl.out hn
  obtain ⟨A, c, rfl, hnc, hcm⟩ := own_len h1.row
  have f0 := h1.cell
  have hb : Below w1.heap.size w1 (w1.alloc (.cells #[.string k, .int .i64 a] 63)) := (Below.refl _ _).alloc (Nat.le_refl _) _
  have D := Lib.hid (And.intro h1 (And.intro t1 (And.intro p1 hb)))
  have HR := Lib.hid hR
  clear h1 t1 p1 hb hR hl
  go_wp2_with (at_builtin; refine append_src rfl (.tmp 13) (.tmp 17) 27 rfl base 63 _ 2 _ Try.underlying27 info_o rfl (by decide) (.slice A R1.length c) R1.length _ rfl (own_below D.out.1.row D.out.2.2.2 (Nat.le_refl _)) (some ⟨w1.heap.size, 0, none⟩) 1 1 (enO (k, a)) rfl rfl (fun h => by cases h) (lies_new _ _ _) (enO_one _) (by unfold maxLen; omega) (by omega) (by have := D.out.1.base_le; simp; omega) ?_; intro v3 w3 ho3 hg3 hat3; have hblk : w3.heap[b]? = some (.cells #[.slice A R1.length c] 29 (0, 0)) := (hg3.block b (by have := D.out.1.lt; simp; omega) (fun e => D.out.1.apart e.symm)).trans ((D.out.2.2.2.block b D.out.1.lt).trans D.out.1.blk); obtain ⟨A3, c3, rfl, _, _⟩ := own_len ho3; have z3 := frozen_row hblk 0; have f3 : w3.cell? ⟨b, 0, none⟩ = some (.slice A R1.length c) := (by rw [cell_of_row _ _ _ _ _ _ hblk]; rfl); have M := Lib.hid (And.intro ho3 (And.intro hg3 (And.intro hat3 hblk))); clear ho3 hg3 hat3 hblk)
  go_end0
  obtain ⟨d1, d2, d3, d4⟩ := D.out
  obtain ⟨m1, m2, m3, m4⟩ := M.out
  have hp : ∀ p, (Value.slice A3 (R1.length + 1) c3).ownBlock = some p → w.heap.size ≤ p := fun p hp => by
    rcases m3 with e | e
    · exact d3 p (e ▸ hp)
    · have := d2.size
      rw [hp] at e
      injection e with e
      simp at e
      omega
  have hb : ∀ p, (Value.slice A3 (R1.length + 1) c3).ownBlock = some p → p ≠ b := fun p hp => by
    rcases m3 with e | e
    · rintro rfl
      exact d1.apart (e ▸ hp)
    · have := d1.lt
      rw [hp] at e
      injection e with e
      simp at e
      omega
  refine ⟨rfl, _, ⟨heap_setCell_same w3 b 0 _ _ _ _ m4, ?_, d1.own⟩, ((d2.trans (Two.of_below (b := b) (r := none) d4) (by simp)).grown m2 (fun j hj => .inr (d3 j hj))).setCell 0 _, hp⟩
  rw [← HR.out, List.length_append, List.length_singleton, flat_append, flat_one]
  exact own_kept m1 fun p hq _ => Below.heap_setCell _ _ _ _ (hb p hq)

/-! Next, At. -/
set_option maxRecDepth 100000 in
set_option maxHeartbeats 2000000 in
theorem rat_any {w : World} {base b : Nat} {v : Value} {R : List On} (h : RQ w base b v R) (hn : R.length ≤ 1001) (k : ByteArray) :
    Calls Try.prog 17 #[.pointer (some ⟨b, 0, none⟩), .string k] w fun e w' => e = .returned (.tuple #[.int .i64 (((R.find? fun e => decide (e.1 = k)).map (·.2)).getD 0), .bool ((R.find? fun e => decide (e.1 = k)).map (·.2)).isSome]) ∧ w' = w := by
  obtain ⟨A, c, rfl, hnc, hcm⟩ := own_len h.row
  have hl := Lib.hid (lies_own h.row)
  have f0 := h.cell
  clear h
  obtain ⟨n, hln⟩ : ∃ n, n = R.length := ⟨_, rfl⟩
  rw [← hln] at f0 hn hnc
  have HN := Lib.hid hln
  clear hln
  go_enter Try.func17, Try.ntmps17
  go_wp2
  go_loopw [6] (fun v6 wr => ∃ i : Nat, i ≤ n ∧ v6 = .int .i64 (i : Int) ∧ Hid (∀ j x, j < i → R[j]? = some x → x.1 ≠ k) ∧ wr = w) (fun s _ => n - (intOf s).toNat)
  case atStart => exact ⟨0, by omega, rfl, Lib.hid (fun j x hj => by omega), rfl⟩
  case round =>
    obtain ⟨i, hi, rfl, G, rfl⟩ := hrel
    by_cases hlt : i < n
    · obtain ⟨⟨xk, xa⟩, hx⟩ : ∃ x, R[i]? = some x := ⟨R[i]'(by have := HN.out; omega), List.getElem?_eq_getElem _⟩
      obtain ⟨g, o, rfl, hg, hc⟩ := hl.out.at enO_len (by omega) hx
      have c0 : wr.cell? ⟨g, o + i * 2, none⟩ = some (.string xk) := hc 0 _ rfl
      have c1 : wr.cell? ⟨g, o + i * 2 + 1, none⟩ = some (.int .i64 xa) := hc 1 _ rfl
      have HX := Lib.hid hx
      clear hc hx hg
      by_cases he : xk = k
      · subst he
        go_wp2
        go_ret2
        have e1 : R.find? (fun e => decide (e.1 = xk)) = some (xk, xa) := by
          rw [List.find?_eq_some_iff_getElem]
          have hx := HX.out
          obtain ⟨h1, h2⟩ := List.getElem?_eq_some_iff.1 hx
          refine ⟨by simp, i, h1, h2, fun j hj => ?_⟩
          have := G.out j _ hj (List.getElem?_eq_getElem (by omega))
          simpa using this
        rw [e1]
        exact ⟨rfl, rfl⟩
      · have hd := str_ne he
        go_wp2
        refine ⟨⟨i + 1, by omega, by go_num, Lib.hid fun j x hj hx => ?_, trivial⟩, ?_⟩
        · by_cases hji : j = i
          · subst hji
            rw [HX.out] at hx
            injection hx with hx
            subst hx
            exact he
          · exact G.out j x (by omega) hx
        · simp [intOf]; omega
    · obtain rfl : i = n := by omega
      go_wp2
      go_ret2
      have e1 : R.find? (fun e => decide (e.1 = k)) = none := by
        rw [List.find?_eq_none]
        intro x hx
        obtain ⟨j, hj, rfl⟩ := List.getElem_of_mem hx
        have := G.out j _ (by have := HN.out; omega) (List.getElem?_eq_getElem hj)
        simpa using this
      rw [e1]
      exact ⟨rfl, rfl⟩
/-- The least of them. -/
def OLeast (R : List On) (i : Nat) (f : Int) : Prop := (∃ x ∈ R, x.2 = f) ∧ ∀ j x, j < i → R[j]? = some x → f ≤ x.2
set_option maxRecDepth 100000 in
set_option maxHeartbeats 2000000 in
theorem rnext_any {w : World} {base b : Nat} {v : Value} {R : List On} (h : RQ w base b v R) (hn : R.length ≤ 1001) (h0 : 0 < R.length) :
    Calls Try.prog 15 #[.pointer (some ⟨b, 0, none⟩)] w fun e w' => (∃ f, OLeast R R.length f ∧ e = .returned (.tuple #[.int .i64 f, .bool true])) ∧ w' = w := by
  obtain ⟨A, c, rfl, hnc, hcm⟩ := own_len h.row
  have hl := Lib.hid (lies_own h.row)
  have f0 := h.cell
  clear h
  obtain ⟨n, hln⟩ : ∃ n, n = R.length := ⟨_, rfl⟩
  rw [← hln] at f0 hn hnc h0 ⊢
  have HN := Lib.hid hln
  clear hln
  obtain ⟨⟨yk, ya⟩, hy⟩ : ∃ x, R[0]? = some x := ⟨R[0]'(by have := HN.out; omega), List.getElem?_eq_getElem _⟩
  obtain ⟨g, o, rfl, hg, hc⟩ := hl.out.at enO_len (by omega) hy
  have d0 : w.cell? ⟨g, o, none⟩ = some (.string yk) := by simpa using hc 0 _ rfl
  have d1 : w.cell? ⟨g, o + 1, none⟩ = some (.int .i64 ya) := by simpa using hc 1 _ rfl
  have h00 : ¬ n = 0 := by omega
  have HY := Lib.hid hy
  clear hc hg hy
  go_enter Try.func15, Try.ntmps15
  go_wp2
  go_loopw [4, 5] (fun v4 v5 wr => ∃ (i : Nat) (f : Int), i ≤ n ∧ v5 = .int .i64 (i : Int) ∧ v4 = .int .i64 f ∧ Hid (OLeast R i f) ∧ wr = w) (fun _ s _ => n - (intOf s).toNat)
  case atStart => exact ⟨0, ya, by omega, rfl, rfl, Lib.hid ⟨⟨_, List.mem_of_getElem? HY.out, rfl⟩, fun j x hj => by omega⟩, rfl⟩
  case round =>
    obtain ⟨i, f, hi, rfl, rfl, G, rfl⟩ := hrel
    clear d0 d1
    by_cases hlt : i < n
    · obtain ⟨⟨xk, xa⟩, hx⟩ : ∃ x, R[i]? = some x := ⟨R[i]'(by have := HN.out; omega), List.getElem?_eq_getElem _⟩
      obtain ⟨g', o', e1, hg, hc⟩ := hl.out.at enO_len (by omega) hx
      injection e1 with e1
      injection e1 with e1 e2 _
      subst e1 e2
      have c1 : wr.cell? ⟨g, o + i * 2 + 1, none⟩ = some (.int .i64 xa) := hc 1 _ rfl
      have HX := Lib.hid hx
      clear hc hx hg
      by_cases he : xa < f
      · go_wp2
        refine ⟨⟨i + 1, xa, by omega, by go_num, rfl, Lib.hid ⟨⟨_, List.mem_of_getElem? HX.out, rfl⟩, fun j x hj hx => ?_⟩, trivial⟩, ?_⟩
        · by_cases hji : j = i
          · subst hji
            rw [HX.out] at hx
            injection hx with hx
            subst hx
            exact Int.le_refl _
          · have := G.out.2 j x (by omega) hx
            omega
        · simp [intOf]; omega
      · go_wp2
        refine ⟨⟨i + 1, f, by omega, by go_num, rfl, Lib.hid ⟨G.out.1, fun j x hj hx => ?_⟩, trivial⟩, ?_⟩
        · by_cases hji : j = i
          · subst hji
            rw [HX.out] at hx
            injection hx with hx
            subst hx
            show f ≤ xa
            omega
          · exact G.out.2 j x (by omega) hx
        · simp [intOf]; omega
    · obtain rfl : i = n := by omega
      go_wp2
      go_ret2
      exact ⟨⟨f, G.out, rfl⟩, rfl⟩
theorem rnext_none {w : World} {base b : Nat} {v : Value} (h : RQ w base b v []) : Calls Try.prog 15 #[.pointer (some ⟨b, 0, none⟩)] w fun e w' => e = .returned (.tuple #[.int .i64 0, .bool false]) ∧ w' = w := by
  obtain ⟨A, c, rfl, hnc, hcm⟩ := own_len h.row
  have f0 := h.cell
  simp only [List.length_nil] at f0
  clear h hnc
  go_enter Try.func15, Try.ntmps15
  go_wp2
  go_ret2
  exact ⟨rfl, rfl⟩
end Go.Proofs.Ytebdhleggbccdaa
