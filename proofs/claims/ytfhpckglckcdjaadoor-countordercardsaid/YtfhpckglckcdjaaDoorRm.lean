/- Two counts beside a row of bytes of the walk's own; slices of bytes and of greater integers that came in. -/
import Derived.Test.YtfhpckglckcdjaaDoorAd
import Derived.Laws.AppendOwnNone
import Derived.OwnWalk
namespace Go.Proofs.YtfhpckglckcdjaaDoor
open Go.RowKit Go.Proofs.Lx Go.ChangeShapes Go.WideShapes Go.ChangeAt Go.Deep

/-- The integers xs lie in v, which has no room where it is nil. -/
def NumsN (k : IntKind) (w : World) (v : Value) (xs : List Int) : Prop :=
  ∃ (A : Option Addr) (cap : Nat), v = .slice A xs.length cap ∧ xs.length ≤ cap ∧ (∀ x ∈ xs, (Lit.int k x).wf = true) ∧ (A = none → cap = 0) ∧ (0 < xs.length → ∃ g o, A = some ⟨g, o, none⟩ ∧ g < w.heap.size ∧ ∀ j x, xs[j]? = some x → w.cell? ⟨g, o + j, none⟩ = some (.int k x))
theorem numsn_of {H : Type} {enc : TypeId × Value → H} {w : World} {base b0 : Nat} {spare : Nat → Bool} {held : Bool} {v : Value} {d : DataW H} {ps : List MemPlace} {k : IntKind} {t e : TypeId}
    (ht : Tryd.prog.underlying t = some (.slice e)) (he : Tryd.prog.underlying e = some (.int k)) (hc : Tryd.prog.cellsOf e = 1) (hv : Value.okWide Tryd.prog w .any b0 t v) (h : DataW.Trod enc Tryd.prog w base spare held t v d ps) : ∃ xs, NumsN k w v xs := by
  obtain ⟨A, l, c, rfl⟩ := okWide_slice ht hv
  obtain ⟨fuel, hf⟩ := h
  rcases open_ints ht he hc hf with ⟨hcs, _⟩ | ⟨a, len, cap, zs, hcs, _, hl, hm, hz, _, hcell, hwz⟩
  · simp [Value.cells] at hcs
    obtain ⟨rfl, rfl, rfl⟩ := hcs
    exact ⟨[], none, 0, rfl, Nat.le_refl _, by simp, fun _ => rfl, fun h => by simp at h⟩
  · simp [Value.cells] at hcs
    obtain ⟨rfl, rfl, rfl⟩ := hcs
    have hzl : l ≤ zs.length := by rw [hz]; split <;> omega
    have hlen : (zs.take l).length = l := by simp; omega
    refine ⟨zs.take l, some a, c, by rw [hlen], by omega, fun y hy => hwz y (List.mem_of_mem_take hy), fun h => (by cases h), fun h0 => ?_⟩
    rw [hlen] at h0
    obtain ⟨g, o, rfl⟩ := plain_addr (hcell 0 (by omega))
    have hlt := World.block_lt_of_cell? _ _ (hcell 0 (by omega))
    rw [plain_add] at hlt
    refine ⟨g, o, rfl, hlt, fun j y hj => ?_⟩
    have hj1 : j < l := by
      have := (List.getElem?_eq_some_iff.1 hj).1
      simp at this; omega
    have hz2 : zs[j]? = some y := by rw [List.getElem?_take, if_pos hj1] at hj; exact hj
    have := hcell j (by omega)
    rw [plain_add] at this
    rw [this, List.getD, hz2]
    rfl
/-- The bytes zs lie in v, a row of the walk's own. -/
def OwnB (w : World) (base : Nat) (v : Value) (zs : List Int) : Prop := w.ownsRow base 5 1 v zs.length (zs.map (Value.int .u8))
theorem ownb_empty (w : World) (B : Nat) (hB : B ≤ w.heap.size) : OwnB (w.alloc (.cells #[] 5)) B (.slice (some ⟨w.heap.size, 0, none⟩) 0 0) [] :=
  World.ownsRow_lit w #[] 0 hB (by unfold maxLen; omega) rfl
theorem info5 : (Tryd.prog.info? 5).map (fun i => (i.zero, i.size, i.bytes)) = some (some (.int .u8 0), 1, 1) := by kernel_rfl
theorem ints_one (k : IntKind) (zs : List Int) : ∀ u ∈ zs.map (Value.int k), u.oneCell' = true := fun u hu => by
  obtain ⟨x, _, rfl⟩ := List.mem_map.1 hu
  rfl
theorem wpList_append_nums {w : World} {ops : Array Oper} {rest : List Oper} {o : Oper} {a : Act} {Q : Exit → Act → World → Prop} (hgd : o.guard = none) (s x : Operand)
    (ho : o.op = .call { callee := .builtin .append, args := #[s, x], argTypes := #[36, 36] }) (B : Nat) (v : Value) (xs : List Int) (hs : a.eval s = v) (hown : OwnB w B v xs)
    (zs : List Int) (u : Value) (hx : a.eval x = u) (hu : NumsN .u8 w u zs) (hn : xs.length + zs.length ≤ 100000) (hB : B ≤ w.heap.size)
    (h : ∀ v' w', OwnB w' B v' (xs ++ zs) → w.grownBy w' v.ownBlock → wpList Tryd.prog ops Q rest (a.put o.dst v') w') : wpList Tryd.prog ops Q (o :: rest) a w := by
  obtain ⟨i0, hi, hz0, hz1, hz2⟩ := info_parts info5
  obtain ⟨A, c, rfl, hlc, _, hnil, hat⟩ := hu
  cases A with
  | none =>
    have hm : zs.length = 0 := by
      rcases Nat.eq_zero_or_pos zs.length with h0 | h0
      · exact h0
      · obtain ⟨_, _, he, _⟩ := hat h0; cases he
    have hc := hnil rfl
    subst hc
    obtain rfl : zs = [] := List.eq_nil_of_length_eq_zero hm
    refine wpList_append_own_none hgd s x 36 ho B 5 i0 1 Tryd.underlying36 hi v xs.length _ hs hown hx ?_
    exact h v w (by rw [List.append_nil]; exact hown) (World.grownBy.refl _ _)
  | some ad =>
    refine wpList_append_own_at _ hgd s x 36 ho B 5 i0 (.int .u8 0) 1 1 Tryd.underlying36 hi hz0 hz1 hz2 rfl (by decide) v xs.length _ hs hown ad zs.length c (zs.map (Value.int .u8)) hx (by simp) ?_ (ints_one _ _) (by unfold maxLen; omega) (by omega) hB ?_
    · intro j u hu
      rw [List.getElem?_map] at hu
      obtain ⟨z, hz, rfl⟩ := Option.map_eq_some_iff.1 hu
      obtain ⟨g, o', he, _, hh⟩ := hat (by have := (List.getElem?_eq_some_iff.1 hz).1; omega)
      injection he with he
      subst he
      rw [plain_add]
      exact hh j z hz
    · intro v' w' h1 h2 _ _
      refine h v' w' ?_ h2
      unfold OwnB
      simpa using h1
theorem ownb_form {w : World} {B n : Nat} {v : Value} {zs : List Int} (h : OwnB w B v zs) (hn : zs.length = n) (h0 : 0 < n) :
    ∃ g c, v = .slice (some ⟨g, 0, none⟩) n c ∧ n ≤ c ∧ (∃ cur, w.heap[g]? = some (.cells cur 5 (0, 0))) ∧ ∀ j z, zs[j]? = some z → w.cell? ⟨g, j, none⟩ = some (.int .u8 z) := by
  have h' := h
  unfold OwnB at h
  rw [hn] at h
  rcases h.2 with ⟨_, h1⟩ | ⟨g, cap, cur, rfl, hg, hh, h1, h2, h3, h4⟩
  · omega
  · refine ⟨g, cap, rfl, h1, ⟨cur, hh⟩, fun j z hj => ?_⟩
    obtain ⟨g', c', e, _, _, _, hcell⟩ := own_cells h h0
    injection e with e _ _
    injection e with e
    injection e with e _ _
    subst e
    exact hcell j _ (by rw [List.getElem?_map, hj]; rfl)
theorem ownb_len {w : World} {B : Nat} {v : Value} {zs : List Int} (h : OwnB w B v zs) : ∃ A c, v = .slice A zs.length c ∧ zs.length ≤ c := own_len h
theorem ownb_set {w : World} {base n k g c : Nat} {zs : List Int} (h : OwnB w base (.slice (some ⟨g, 0, none⟩) n c) zs) (x : Int) : OwnB (w.setCell ⟨g, k, none⟩ (.int .u8 x)) base (.slice (some ⟨g, 0, none⟩) n c) (zs.set k x) := by
  unfold OwnB at h ⊢
  have hl := h.1
  rcases h.2 with ⟨e1, _⟩ | ⟨g', cap, cur, e1, hb, hg, h1, h2, h3, h4⟩
  · cases e1
  · injection e1 with e1 e2 e3
    injection e1 with e1
    injection e1 with e1 _ _
    subst e1 e3
    refine ⟨by simp, .inr ⟨g, c, _, by rw [List.length_set, e2], hb, heap_setCell_same w g k _ _ _ _ hg, by simpa using h1, h2, by simpa using h3, ?_⟩⟩
    rw [Array.toList_setIfInBounds, List.map_set, List.length_set, ← h4, List.take_set]
theorem ownb_below {w w' : World} {base : Nat} {v : Value} {zs : List Int} (h : OwnB w base v zs) (hb : Below w.heap.size w w') : OwnB w' base v zs := own_below h hb (Nat.le_refl _)
theorem ownb_ne {w : World} {base b : Nat} {v : Value} {zs : List Int} {N : List Nat} (h : OwnB w base v zs) (hc : Cn w b N) : v.ownBlock ≠ some b := by
  intro e
  rcases h.2 with ⟨rfl, _⟩ | ⟨g, cap, cur, rfl, _, hg, _⟩
  · simp [Value.ownBlock] at e
  · simp only [Value.ownBlock, Option.some.injEq] at e
    subst e
    rw [hc] at hg
    injection hg with hg
    injection hg with _ ht
    exact absurd ht (by decide)
theorem ownb_but {w w' : World} {base b : Nat} {v : Value} {zs : List Int} (h : OwnB w base v zs) (hb : But b w w') (hne : v.ownBlock ≠ some b) : OwnB w' base v zs := by
  refine ⟨h.1, ?_⟩
  rcases h.2 with h0 | ⟨g, cap, cur, hv, hb', hg, rest⟩
  · exact .inl h0
  · have hlt : g < w.heap.size := (Array.getElem?_eq_some_iff.1 hg).1
    exact .inr ⟨g, cap, cur, hv, hb', (hb.block g hlt (fun e => hne (by rw [hv, e]; rfl))).trans hg, rest⟩
theorem ownb_old {w : World} {base : Nat} {v : Value} {zs : List Int} {g n c : Nat} (h : OwnB w base v zs) (hv : v = .slice (some ⟨g, 0, none⟩) n c) : base ≤ g := by
  subst hv
  rcases h.2 with ⟨e, _⟩ | ⟨g', cap, cur, e, hb, _⟩
  · cases e
  · injection e with e _ _
    injection e with e
    injection e with e _ _
    omega
/-- Two things change places. -/
def swap (l : List Int) (i j : Nat) : List Int := (l.set i (l.getD j 0)).set j (l.getD i 0)
theorem swap_perm (l : List Int) (i j : Nat) (hi : i < l.length) (hj : j < l.length) : (swap l i j).Perm l := by
  have h := Array.swap_perm (xs := l.toArray) (i := i) (j := j) (by simpa using hi) (by simpa using hj)
  have e : (l.toArray.swap i j (by simpa using hi) (by simpa using hj)).toList = swap l i j := by
    unfold swap
    simp [Array.swap, List.getD_eq_getElem?_getD, List.getElem?_eq_getElem hi, List.getElem?_eq_getElem hj]
  have h2 := Array.perm_iff_toList_perm.1 h
  rw [e] at h2
  exact h2

/-- Two counts and a row of bytes, all of the walk's own. -/
structure Rm (w0 w : World) (a b : Nat) (N M : List Nat) (v : Value) (zs : List Int) : Prop where
  ca : Cn w a N
  cb : Cn w b M
  row : OwnB w w0.heap.size v zs
  bel : Below w0.heap.size w0 w
  own1 : w0.heap.size ≤ a
  own2 : w0.heap.size ≤ b
  ne : a ≠ b
section
variable {w0 w w' : World} {a b : Nat} {N M K : List Nat} {v : Value} {zs : List Int}
theorem Rm.below (s : Rm w0 w a b N M v zs) (h : Below w.heap.size w w') : Rm w0 w' a b N M v zs := ⟨s.ca.below h, s.cb.below h, ownb_below s.row h, s.bel.trans (h.mono s.bel.size), s.own1, s.own2, s.ne⟩
theorem Rm.but1 (s : Rm w0 w a b N M v zs) (h : Cn w' a K) (hb : But a w w') : Rm w0 w' a b K M v zs := ⟨h, hb.row s.cb (fun e => s.ne e.symm), ownb_but s.row hb (ownb_ne s.row s.ca), s.bel.trans (hb.below s.bel.size s.own1), s.own1, s.own2, s.ne⟩
theorem Rm.but2 (s : Rm w0 w a b N M v zs) (h : Cn w' b K) (hb : But b w w') : Rm w0 w' a b N K v zs := ⟨hb.row s.ca s.ne, h, ownb_but s.row hb (ownb_ne s.row s.cb), s.bel.trans (hb.below s.bel.size s.own2), s.own1, s.own2, s.ne⟩
theorem Rm.cs1 (s : Rm w0 w a b N M v zs) : Cs w (some ⟨a, 0, none⟩) N := .inr ⟨a, rfl, s.ca⟩
theorem Rm.cs2 (s : Rm w0 w a b N M v zs) : Cs w (some ⟨b, 0, none⟩) M := .inr ⟨b, rfl, s.cb⟩
theorem Rm.pow (s : Rm w0 w a b N M v zs) (h : Pow w0) : Pow w := h.below s.bel (Nat.le_refl _)
theorem Rm.set {g n c : Nat} (s : Rm w0 w a b N M (.slice (some ⟨g, 0, none⟩) n c) zs) (k : Nat) (x : Int) : Rm w0 (w.setCell ⟨g, k, none⟩ (.int .u8 x)) a b N M (.slice (some ⟨g, 0, none⟩) n c) (zs.set k x) := by
  have hb : But g w (w.setCell ⟨g, k, none⟩ (.int .u8 x)) := (But.of_below (Below.refl _ _)).setCell _ _
  have ha : a ≠ g := fun e => ownb_ne s.row s.ca (by rw [e]; rfl)
  have hbb : b ≠ g := fun e => ownb_ne s.row s.cb (by rw [e]; rfl)
  exact ⟨hb.row s.ca ha, hb.row s.cb hbb, ownb_set s.row x, s.bel.trans (hb.below s.bel.size (ownb_old s.row rfl)), s.own1, s.own2, s.ne⟩
theorem Rm.swapped {g n c i j : Nat} (s : Rm w0 w a b N M (.slice (some ⟨g, 0, none⟩) n c) zs) : Rm w0 ((w.setCell ⟨g, i, none⟩ (.int .u8 (zs.getD j 0))).setCell ⟨g, j, none⟩ (.int .u8 (zs.getD i 0))) a b N M (.slice (some ⟨g, 0, none⟩) n c) (swap zs i j) := (s.set i _).set j _
end
end Go.Proofs.YtfhpckglckcdjaaDoor
