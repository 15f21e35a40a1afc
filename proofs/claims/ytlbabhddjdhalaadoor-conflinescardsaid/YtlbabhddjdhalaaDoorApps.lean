/- Rows of strings: split, joined, appended to one another. -/
import Derived.Test.YtlbabhddjdhalaaDoorLaws0
import Derived.Test.YtlbabhddjdhalaaDoorJoin
import Derived.Test.YtlbabhddjdhalaaDoorPure3
import Derived.Deep.AppendLies
import Derived.Deep.RegionHeld
namespace Go.Proofs.YtlbabhddjdhalaaDoor
open Go.RowKit Go.Proofs.Lx

theorem strs_one (ws : List Bs) : ∀ u ∈ ws.map Str, u.oneCell' = true := fun u hu => by
  obtain ⟨l, _, rfl⟩ := List.mem_map.1 hu
  rfl
/-- The strings ws lie in block g, from o on. -/
def SAt (w : World) (g o : Nat) (ws : List Bs) : Prop := g < w.heap.size ∧ ∀ (j : Nat) (l : Bs), ws[j]? = some l → w.cell? ⟨g, o + j, none⟩ = some (Str l)
theorem SAt.below {w w' : World} {B g o : Nat} {ws : List Bs} (h : SAt w g o ws) (hb : Below B w w') (hg : g < B) : SAt w' g o ws :=
  ⟨Nat.lt_of_lt_of_le h.1 hb.size, fun j l hj => (hb.cell (p := ⟨g, o + j, none⟩) hg).trans (h.2 j l hj)⟩
theorem SAt.drop {w : World} {g o : Nat} {ws : List Bs} (h : SAt w g o ws) (k : Nat) : SAt w g (o + k) (ws.drop k) :=
  ⟨h.1, fun j l hj => by rw [Nat.add_assoc]; exact h.2 (k + j) l (by rw [List.getElem?_drop] at hj; exact hj)⟩
theorem SAt.take {w : World} {g o : Nat} {ws : List Bs} (h : SAt w g o ws) (k : Nat) : SAt w g o (ws.take k) :=
  ⟨h.1, fun j l hj => h.2 j l (by rw [List.getElem?_take] at hj; split at hj <;> simp_all)⟩
theorem SAt.nil {w : World} {g o : Nat} (h : g < w.heap.size) : SAt w g o [] := ⟨h, fun j l hj => by simp at hj⟩
theorem SAt.one (w : World) (l : Bs) : SAt (w.alloc (.cells #[Str l] 9)) w.heap.size 0 [l] := ⟨by simp, fun j x hj => by
  match j, hj with
  | 0, hj => simp at hj; subst hj; simp⟩
theorem Strs.empty (w : World) (base : Nat) (hb : base ≤ w.heap.size) : Strs (w.alloc (.cells #[] 9)) base (.slice (some ⟨w.heap.size, 0, none⟩) 0 0) [] :=
  ⟨rfl, .inr ⟨w.heap.size, 0, #[], rfl, hb, heap_alloc_new _ _, Nat.le_refl _, by decide, rfl, rfl⟩⟩
theorem Strs.sat {w : World} {base : Nat} {v : Value} {ws : List Bs} (h : Strs w base v ws) (h0 : 0 < ws.length) : ∃ g c, v = .slice (some ⟨g, 0, none⟩) ws.length c ∧ ws.length ≤ c ∧ SAt w g 0 ws := by
  obtain ⟨g, c, h1, h2, h3, h4⟩ := h.at_ h0
  exact ⟨g, c, h1, h2, h3, fun j l hj => by rw [Nat.zero_add]; exact h4 j l hj⟩
theorem add_off (g o j : Nat) : (⟨g, o, none⟩ : Addr).add j = ⟨g, o + j, none⟩ := by unfold Addr.add; split <;> simp_all
/-- An append of strings, as a step of a region that draws. -/
theorem step_append_strs {ops : Array Oper} {o : Oper} {a : Act} {w : World} {K : Act → World → Prop} {Q : Exit → Act → World → Prop} {E : Prop} (hgd : o.guard = none) (s x : Operand)
    (ho : o.op = .call { callee := .builtin .append, args := #[s, x], argTypes := #[39, 39] })
    (base : Nat) (v : Value) (n m : Nat) (xs ys : List Bs) (hs : a.eval s = v) (hn : n = xs.length) (hown : Strs w base v xs) (g og c : Nat) (hx : a.eval x = .slice (some ⟨g, og, none⟩) m c) (hm : m = ys.length) (hnews : SAt w g og ys) (hlen : n + m ≤ 1000) (hbase : base ≤ w.heap.size)
    (h : ∀ A cap w', Strs w' base (.slice A (n + m) cap) (xs ++ ys) → Below base w w' → (∀ g' og' zs, some g' ≠ v.ownBlock → SAt w g' og' zs → SAt w' g' og' zs) → K (a.put o.dst (.slice A (n + m) cap)) w') :
    if Region.wanted o (yielded ops a.tmps) = true then Oper.wp Tryd.prog o a w K Q else E := by
  have hw : Region.wanted o (yielded ops a.tmps) = true := by simp [Region.wanted, hgd]
  rw [if_pos hw]
  subst hn hm
  obtain ⟨i0, hi, hz0, hz1, hz2⟩ := info_parts Tryd.info9
  obtain ⟨v', w', hr, h2, h3, _, _⟩ := run_append_own_at (P := Tryd.prog) w base 39 o.type 9 i0 (.string ByteArray.empty) 1 16 Tryd.underlying39 hi hz0 hz1 hz2 rfl (by decide) v xs.length (xs.map Str) hown ⟨g, og, none⟩ ys.length c (ys.map Str) (by simp) (fun j u hj => by
    rw [List.getElem?_map] at hj
    obtain ⟨l, hl, rfl⟩ := Option.map_eq_some_iff.1 hj
    rw [add_off]; exact hnews.2 j l hl) (strs_one ys) (by unfold maxLen; omega) (by omega) hbase
  have hst : Strs w' base v' (xs ++ ys) := by unfold Strs; rw [List.length_append, List.map_append]; exact h2
  obtain ⟨A, cap, rfl, _⟩ := hst.len
  rw [List.length_append] at hr hst
  unfold Oper.wp execOp
  simp only [ho, resolve, invoke, builtin, Sem.run_bind, Sem.run_pure, Result.andThen_ok, List.map_toArray, List.map_cons, List.map_nil, hs, hx, hr]
  exact h A cap w' hst ⟨h3.os, h3.tape, h3.output, h3.size, fun k hk => h3.block k (by omega) (fun e => by have := (World.ownsRow.lt hown k e.symm).1; omega)⟩ (fun g' og' zs hne hz => ⟨Nat.lt_of_lt_of_le hz.1 h3.size, fun j l hj => (h3.cell_far _ hz.1 hne).trans (hz.2 j l hj)⟩)
theorem strs_map (xs : List ByteArray) : xs.map Value.string = (xs.map (·.data.toList)).map Str := by
  rw [List.map_map]
  exact List.map_congr_left fun x _ => str_eq x
theorem splits_any (s : ByteArray) (w : World) (hs : s.size ≤ 100000) (hm : Mx w) :
    Calls Tryd.prog 19 #[.string s, .string ⟨#[10]⟩] w fun e w' => e = .returned (.slice (some ⟨w.heap.size, 0, none⟩) (linesOf s.data.toList).length (linesOf s.data.toList).length) ∧ SAt w' w.heap.size 0 (linesOf s.data.toList) ∧ Below w.heap.size w w' := by
  obtain ⟨m, hm⟩ := hm
  refine (Tryd.strings_Split s ⟨#[10]⟩ m w (by omega) hm (by decide)).mono ?_
  rintro e w' ⟨rfl, rfl⟩
  rw [pieces_len, strs_map, lines_lib]
  refine ⟨rfl, ⟨by simp, fun j l hj => ?_⟩, below_alloc _ _⟩
  rw [Nat.zero_add, Lib.cell_of_heap (heap_alloc_new _ _)]
  simp [hj]
theorem trim_any (s : ByteArray) (w : World) (hs : s.size ≤ 100000) :
    Calls Tryd.prog 20 #[.string s, .string ⟨#[10]⟩] w fun e w' => e = .returned (.string ⟨(Lib.trimSuffix s.data.toList [10]).toArray⟩) ∧ w' = w := Tryd.strings_TrimSuffix s ⟨#[10]⟩ w (by omega)
theorem joins_any (g o c : Nat) (ws : List Bs) (sep : ByteArray) (w : World) (hv : SAt w g o ws) (hc : ws.length ≤ c) (h1 : ws.length ≤ 1000000) (h2 : (Lib.join ws sep.data.toList).length ≤ 1000000) :
    Calls Tryd.prog 21 #[.slice (some ⟨g, o, none⟩) ws.length c, .string sep] w fun e w' => e = .returned (.string ⟨(Lib.join ws sep.data.toList).toArray⟩) ∧ Below w.heap.size w w' := by
  have e : ((ws.map fun l => (⟨l.toArray⟩ : ByteArray)).map (·.data.toList)) = ws := by
    rw [List.map_map]
    conv => rhs; rw [← List.map_id ws]
    exact List.map_congr_left fun l _ => by simp
  have := Tryd.strings_Join g o c (ws.map fun l => ⟨l.toArray⟩) sep w (fun j x hx => by
    rw [List.getElem?_map] at hx
    obtain ⟨l, hl, rfl⟩ := Option.map_eq_some_iff.1 hx
    exact hv.2 j l hl) hv.1 (by simp; omega) (by simpa using hc) (by rw [e]; exact Nat.le_trans h2 (by decide))
  rw [e, List.length_map] at this
  exact this
end Go.Proofs.YtlbabhddjdhalaaDoor
