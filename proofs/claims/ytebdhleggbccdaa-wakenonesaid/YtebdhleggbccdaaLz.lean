/- Things of any number of cells that lie one behind another; appended from wherever they lie; a part of them; sorted. Over no program. -/
import Derived.Test.YtebdhleggbccdaaMem
import Derived.Maps.AppendAt
import Derived.Laws.AppendOwnNone
import Derived.Shelf.SlSortFuncK.SWK
namespace Go.Proofs.Ytebdhleggbccdaa
open Go.RowKit

/-- Values that lie one behind another. -/
def Lies (w : World) (A : Option Addr) (cs : List Value) : Prop := cs = [] ∨ ∃ g o, A = some ⟨g, o, none⟩ ∧ g < w.heap.size ∧ ∀ j v, cs[j]? = some v → w.cell? ⟨g, o + j, none⟩ = some v
theorem Lies.later {w w' : World} {A : Option Addr} {cs : List Value} (h : Lies w A cs) (hb : Below w.heap.size w w') : Lies w' A cs := by
  rcases h with h | ⟨g, o, ha, hg, hc⟩
  · exact .inl h
  · exact .inr ⟨g, o, ha, by have := hb.size; omega, fun j v hv => (hb.cell (p := ⟨g, _, none⟩) hg).trans (hc j v hv)⟩
theorem Lies.open {w : World} {A : Option Addr} {cs : List Value} (h : Lies w A cs) (h0 : 0 < cs.length) : ∃ g o, A = some ⟨g, o, none⟩ ∧ g < w.heap.size ∧ ∀ j v, cs[j]? = some v → w.cell? ⟨g, o + j, none⟩ = some v := by
  rcases h with rfl | h
  · simp at h0
  · exact h
theorem lies_own {w : World} {base e sz n c : Nat} {A : Option Addr} {cs : List Value} (h : w.ownsRow base e sz (.slice A n c) n cs) : Lies w A cs := by
  rcases h.2 with ⟨e1, h0⟩ | ⟨g, cap, cur, e1, hb, hg, rest⟩
  · subst h0
    exact .inl (List.eq_nil_of_length_eq_zero (by have := h.1; omega))
  · injection e1 with e1 _ e3
    subst e1 e3
    exact .inr ⟨g, 0, rfl, heap_lt hg, fun j v hv => by rw [Nat.zero_add]; exact (h.cellAt j (by have := (List.getElem?_eq_some_iff.1 hv).1; have := h.1; omega)).trans hv⟩
theorem lies_new (w : World) (cs : List Value) (t : TypeId) : Lies (w.alloc (.cells cs.toArray t)) (some ⟨w.heap.size, 0, none⟩) cs := by
  refine .inr ⟨_, _, rfl, by simp, fun j v hv => ?_⟩
  rw [cell_of_row _ _ _ _ _ _ (heap_alloc_new w _)]
  simpa using hv

theorem lies_new2 (w : World) (O : Obj) (cs : List Value) (t : TypeId) : Lies ((w.alloc O).alloc (.cells cs.toArray t)) (some ⟨w.heap.size + 1, 0, none⟩) cs := by
  have := lies_new (w.alloc O) cs t
  rwa [show (w.alloc O).heap.size = w.heap.size + 1 by simp] at this
theorem bel_two (w : World) (O O' : Obj) : Below w.heap.size w ((w.alloc O).alloc O') := ((Below.refl _ _).alloc (Nat.le_refl _) _).alloc (by simp) _

/-! Cells of things, one behind another. -/
section
variable {α : Type} {f : α → List Value} {k : Nat}
def flat (f : α → List Value) (l : List α) : List Value := l.flatMap f
theorem flat_nil : flat f [] = [] := rfl
theorem flat_cons (x : α) (l : List α) : flat f (x :: l) = f x ++ flat f l := by simp [flat]
theorem flat_append (a b : List α) : flat f (a ++ b) = flat f a ++ flat f b := by simp [flat]
theorem flat_one (x : α) : flat f [x] = f x := by simp [flat]
theorem length_flat (hk : ∀ x, (f x).length = k) : ∀ l : List α, (flat f l).length = l.length * k
  | [] => by simp [flat]
  | x :: l => by rw [flat_cons, List.length_append, hk, length_flat hk l, List.length_cons, Nat.succ_mul]; omega
theorem flat_get (hk : ∀ x, (f x).length = k) : ∀ (l : List α) (i j : Nat) (x : α), l[i]? = some x → j < k → (flat f l)[i * k + j]? = (f x)[j]?
  | [], i, j, x, h, _ => by simp at h
  | y :: l, 0, j, x, h, hj => by
    simp at h
    subst h
    rw [flat_cons, List.getElem?_append_left (by rw [hk]; omega)]
    simp
  | y :: l, i + 1, j, x, h, hj => by
    simp at h
    have e : (i + 1) * k + j = k + (i * k + j) := by rw [Nat.succ_mul]; omega
    rw [flat_cons, e, List.getElem?_append_right (by rw [hk]; omega), hk, show k + (i * k + j) - k = i * k + j by omega]
    exact flat_get hk l i j x h hj
theorem flat_take (hk : ∀ x, (f x).length = k) : ∀ (l : List α) (i : Nat), (flat f l).take (i * k) = flat f (l.take i)
  | [], i => by simp [flat]
  | y :: l, 0 => by simp [flat]
  | y :: l, i + 1 => by
    have e : (i + 1) * k = (f y).length + i * k := by rw [Nat.succ_mul, hk]; omega
    rw [List.take_succ_cons, flat_cons, flat_cons, e, List.take_length_add_append, flat_take hk l i]
theorem flat_drop (hk : ∀ x, (f x).length = k) : ∀ (l : List α) (i : Nat), (flat f l).drop (i * k) = flat f (l.drop i)
  | [], i => by simp [flat]
  | y :: l, 0 => by simp
  | y :: l, i + 1 => by
    have e : (i + 1) * k = (f y).length + i * k := by rw [Nat.succ_mul, hk]; omega
    rw [List.drop_succ_cons, flat_cons, e, List.drop_length_add_append, flat_drop hk l i]
theorem flat_cell (h1 : ∀ x, ∀ v ∈ f x, v.oneCell' = true) (l : List α) : ∀ v ∈ flat f l, v.oneCell' = true := fun v hv => by
  obtain ⟨x, _, hx⟩ := List.mem_flatMap.1 hv
  exact h1 x v hx
/-- A thing's cells. -/
theorem Lies.at {w : World} {A : Option Addr} {l : List α} (h : Lies w A (flat f l)) (hk : ∀ x, (f x).length = k) (k0 : 0 < k) {i : Nat} {x : α} (hx : l[i]? = some x) :
    ∃ g o, A = some ⟨g, o, none⟩ ∧ g < w.heap.size ∧ ∀ j v, (f x)[j]? = some v → w.cell? ⟨g, o + (i * k + j), none⟩ = some v := by
  have hi := (List.getElem?_eq_some_iff.1 hx).1
  obtain ⟨g, o, rfl, hg, hc⟩ := h.open (by rw [length_flat hk]; exact Nat.mul_pos (by omega) k0)
  refine ⟨g, o, rfl, hg, fun j v hv => hc _ v ?_⟩
  rw [flat_get hk l i j x hx (by rw [← hk x]; exact (List.getElem?_eq_some_iff.1 hv).1)]
  exact hv
end

/-! Appends. -/
theorem grown_refl (w : World) (r : Option Nat) : w.grownBy w r := ⟨rfl, rfl, rfl, Nat.le_refl _, fun _ _ _ => rfl⟩
theorem append_src {P : Program} {w : World} {ops : Array Oper} {rest : List Oper} {o : Oper} {a : Act} {Q : Exit → Act → World → Prop} (hgd : o.guard = none) (s x : Operand) (t : TypeId)
    (ho : o.op = .call { callee := .builtin .append, args := #[s, x], argTypes := #[t, t] })
    (base : Nat) (e : TypeId) (z : Value) (size bytes : Nat) (ht : P.underlying t = some (.slice e)) (hi : (P.info? e).map (fun i => (i.zero, i.size, i.bytes)) = some (some z, size, bytes)) (hzs : z.cells.size = size) (hsz : 0 < size)
    (v : Value) (n : Nat) (xs : List Value) (hs : a.eval s = v) (hown : w.ownsRow base e size v n xs)
    (A : Option Addr) (m c : Nat) (news : List Value) (hx : a.eval x = .slice A m c) (hl : news.length = m * size) (hA : A = none → m = 0 ∧ c = 0) (hn : Lies w A news) (h1 : ∀ u ∈ news, u.oneCell' = true)
    (h63 : n + m ≤ maxLen) (hbytes : (n + m) * bytes ≤ 140737488355328) (hbase : base ≤ w.heap.size)
    (h : ∀ v' w', w'.ownsRow base e size v' (n + m) (xs ++ news) → w.grownBy w' v.ownBlock → (v'.ownBlock = v.ownBlock ∨ v'.ownBlock = some w.heap.size) → wpList P ops Q rest (a.put o.dst v') w') : wpList P ops Q (o :: rest) a w := by
  cases hi' : P.info? e with
  | none => rw [hi'] at hi; cases hi
  | some i =>
    rw [hi'] at hi
    simp only [Option.map_some, Option.some.injEq, Prod.mk.injEq] at hi
    cases A with
    | none =>
      obtain ⟨rfl, rfl⟩ := hA rfl
      have h0 : news = [] := List.eq_nil_of_length_eq_zero (by omega)
      subst h0
      refine wpList_append_own_none hgd s x t ho base e i size ht hi' v n xs hs hown hx ?_
      exact h v w (by simpa using hown) (grown_refl _ _) (.inl rfl)
    | some ad =>
      refine wpList_append_own_at w hgd s x t ho base e i z size bytes ht hi' hi.1 hi.2.1 hi.2.2 hzs hsz v n xs hs hown ad m c news hx hl (fun j u hu => ?_) h1 h63 hbytes hbase (fun v' w' k1 k2 _ k4 => h v' w' k1 k2 k4)
      rcases hn with rfl | ⟨g, o, e, _, hc⟩
      · simp at hu
      · injection e with e
        subst e
        rw [add_none]
        exact hc j u hu
theorem own_empty (w : World) (t : TypeId) (size : Nat) : (w.alloc (.cells #[] t)).ownsRow w.heap.size t size (.slice (some ⟨w.heap.size, 0, none⟩) 0 0) 0 [] :=
  ⟨by simp, .inr ⟨w.heap.size, 0, #[], rfl, Nat.le_refl _, heap_alloc_new w _, Nat.le_refl _, Nat.zero_le _, by simp, by simp⟩⟩
/-- What an append to a row of the call's own leaves. -/
theorem bel_grown {B : Nat} {w w1 w2 : World} {v : Value} {base e sz n : Nat} {xs : List Value} (h : Below B w w1) (hB : B ≤ w1.heap.size) (hv : w1.ownsRow base e sz v n xs) (hb : B ≤ base) (g : w1.grownBy w2 v.ownBlock) : Below B w w2 :=
  ⟨g.os.trans h.os, g.tape.trans h.tape, g.output.trans h.output, Nat.le_trans h.size g.size, fun j hj => (g.block j (by omega) (fun e => by have := (own_lt hv e.symm).1; omega)).trans (h.block j hj)⟩

/-! A part of a list that lies somewhere. -/
theorem add_zero' (a : Addr) : a.add 0 = a := by unfold Addr.add; split <;> simp_all
section
variable {P : Program} {t sz : Nat} {w : World} {A : Option Addr} {i c k : Nat} {cs : List Value}
theorem slice_to (hu : P.underlying t = some (.slice (P.elem t))) (hs : ∀ w, (sizeOf (P.elem t)).run P w = .ok sz w) (h : Lies w A cs) (hA : A = none → c = 0) (hk : k ≤ c) :
    ∃ B d, (∀ w, (Instr.slice t (.slice A i c) none (some (.int .i64 (k : Int))) none).run P w = .ok (.slice B k d) w) ∧ Lies w B (cs.take (k * sz)) ∧ (B = none → d = 0) ∧ k ≤ d := by
  refine ⟨A, c, fun w => ?_, ?_, hA, hk⟩
  · have h1 := run_slice_h (P := P) (w := w) t A i c hu .i64 (k : Int) (by omega) (by omega)
    rw [h1]
    simp only [hs, sliced, Result.andThen]
    cases A with
    | none => simp
    | some a => simp [add_zero']
  · rcases h with rfl | ⟨g, o, e, hg, hc⟩
    · exact .inl (by simp)
    · exact .inr ⟨g, o, e, hg, fun j v hv => by rw [List.getElem?_take] at hv; split at hv; exact hc j v hv; cases hv⟩
theorem slice_from {r : Nat} (hu : P.underlying t = some (.slice (P.elem t))) (hs : ∀ w, (sizeOf (P.elem t)).run P w = .ok sz w) (h : Lies w A cs) (hA : A = none → c = 0) (hl : cs.length = i * sz) (hk : k ≤ i) (hic : i ≤ c) (hr : r = i - k) :
    ∃ B d, (∀ w, (Instr.slice t (.slice A i c) (some (.int .i64 (k : Int))) none none).run P w = .ok (.slice B r d) w) ∧ Lies w B (cs.drop (k * sz)) ∧ (B = none → d = 0) ∧ r ≤ d := by
  subst hr
  refine ⟨if c = k then A else A.map (·.add (k * sz)), c - k, fun w => ?_, ?_, ?_, by omega⟩
  · have h1 := run_slice_l (P := P) (w := w) t A i c hu .i64 (k : Int) (by omega) (by omega)
    rw [h1]
    simp only [hs, sliced, Result.andThen, Int.toNat_natCast]
  · rcases h with rfl | ⟨g, o, rfl, hg, hc⟩
    · exact .inl (by simp)
    · split
      · exact .inl (List.drop_eq_nil_of_le (by rw [hl]; exact Nat.mul_le_mul_right _ (by omega)))
      · refine .inr ⟨g, o + k * sz, by simp [add_none], hg, fun j v hv => ?_⟩
        rw [List.getElem?_drop] at hv
        have := hc _ v hv
        rwa [Nat.add_assoc]
  · intro h
    split at h
    · omega
    · cases A with
      | none => have := hA rfl; omega
      | some a => cases h
end

/-! What the sort leaves. -/
open Go.Sort in
theorem below_sort {α : Type} [Inhabited α] {f : α → List Value} {k B blk off n : Nat} {w0 w : World} {d : Array α} {os : Array Obj} (hb : Below B w0 w) (hB : B ≤ w.heap.size) (hk : B ≤ blk) : Below B w0 (sortWorldK f k w blk off n d os) := by
  unfold sortWorldK putRowK putRow
  refine ⟨hb.os, hb.tape, hb.output, ?_, fun j hj => ?_⟩
  · have := hb.size
    simp [grow, mapBlock, Sort.ahead]
    omega
  · have e1 : (grow (mapBlock (Sort.ahead w n) blk (putCells id off (flatK f k d))) os).heap[j]? = (mapBlock (Sort.ahead w n) blk (putCells id off (flatK f k d))).heap[j]? := by
      simp only [grow]
      exact Array.getElem?_append_left (by simp [mapBlock, Sort.ahead]; omega)
    rw [e1]
    simp only [mapBlock, Sort.ahead, Array.getElem?_modify]
    rw [if_neg (by omega)]
    exact hb.block j hj
open Go.Sort in
theorem holds_lies {α : Type} [Inhabited α] {f : α → List Value} {k blk off : Nat} {w : World} {d : Array α} (hk : ∀ x, (f x).length = k) (h : HoldsK f k w blk off d) (hb : blk < w.heap.size) : Lies w (some ⟨blk, off, none⟩) (flat f d.toList) := by
  refine .inr ⟨blk, off, rfl, hb, fun t v hv => ?_⟩
  have ht : t < d.size * k := by
    have := (List.getElem?_eq_some_iff.1 hv).1
    rw [length_flat hk] at this
    simpa using this
  have k0 : 0 < k := by rcases Nat.eq_zero_or_pos k with h | h; subst h; simp at ht; exact h
  have hi : t / k < d.size := Nat.div_lt_of_lt_mul (by rwa [Nat.mul_comm])
  have h1 := (h t (by rw [size_flatK]; exact ht)).1
  rw [h1, get_flatK f k d t ht]
  have h2 : d.toList[t / k]? = some d[t / k]! := by
    rw [Array.getElem?_toList, Array.getElem?_eq_getElem hi, getElem!_pos d _ hi]
  have h3 := flat_get hk d.toList (t / k) (t % k) _ h2 (Nat.mod_lt _ k0)
  rw [Nat.div_add_mod' t k, hv] at h3
  have h4 : t % k < (f d[t / k]!).length := by rw [hk]; exact Nat.mod_lt _ k0
  rw [List.getElem?_eq_getElem h4] at h3
  simp only [Option.some.injEq] at h3
  rw [h3]
  simp [h4]
open Go.Sort in
theorem own_holds {α : Type} [Inhabited α] {f : α → List Value} {k base e g c : Nat} {w : World} {l : List α} (hk : ∀ x, (f x).length = k) (h : w.ownsRow base e k (.slice (some ⟨g, 0, none⟩) l.length c) l.length (flat f l)) : HoldsK f k w g 0 l.toArray := by
  intro t ht
  rw [size_flatK] at ht
  rw [get_flatK f k _ t ht]
  have ht' : t < l.length * k := by simpa using ht
  have k0 : 0 < k := by rcases Nat.eq_zero_or_pos k with h | h; subst h; simp at ht; exact h
  have hi : t / k < l.length := Nat.div_lt_of_lt_mul (by rwa [Nat.mul_comm])
  obtain ⟨_, _, cur, hg⟩ := own_lt (p := g) h rfl
  refine ⟨?_, frozen_row hg _⟩
  rw [Nat.zero_add, h.cellAt t (by have := h.1; rw [length_flat hk] at this; omega)]
  have h2 : l[t / k]? = some l[t / k] := List.getElem?_eq_getElem hi
  have h3 := flat_get hk l (t / k) (t % k) _ h2 (Nat.mod_lt _ k0)
  rw [Nat.div_add_mod' t k] at h3
  have h4 : t % k < (f l[t / k]).length := by rw [hk]; exact Nat.mod_lt _ k0
  rw [h3, List.getElem?_eq_getElem h4]
  have h5 : l.toArray[t / k]! = l[t / k] := by simp [hi]
  rw [h5]
  simp [h4]
end Go.Proofs.Ytebdhleggbccdaa
