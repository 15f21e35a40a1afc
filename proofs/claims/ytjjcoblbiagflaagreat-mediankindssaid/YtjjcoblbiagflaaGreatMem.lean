/- Rings in memory: a struct with a row of its own; a copy of things of any size. Over no program. -/
import Derived.Test.YtjjcoblbiagflaaGreatSw
import Derived.WalkKit
import Derived.Below
import Derived.OwnWalk
import Derived.Laws.CopyOwn
import Derived.Laws.Tables
import Derived.Deep.AppendLies
import Derived.Deep.RegionLaw
import Derived.Lib.Hide
namespace Go.Proofs.YtjjcoblbiagflaaGreat
open Go.RowKit

/-- Block b and a row may have been written; all else is as it was. -/
structure Two (b : Nat) (r : Option Nat) (w w' : World) : Prop where
  os : w'.os = w.os
  tape : w'.tape = w.tape
  output : w'.output = w.output
  size : w.heap.size ≤ w'.heap.size
  block : ∀ j, j < w.heap.size → j ≠ b → some j ≠ r → w'.heap[j]? = w.heap[j]?
theorem Two.of_below {b : Nat} {r : Option Nat} {w w' : World} (h : Below w.heap.size w w') : Two b r w w' := ⟨h.os, h.tape, h.output, h.size, fun j hj _ _ => h.block j hj⟩
theorem Two.trans {b : Nat} {r r' : Option Nat} {u v w : World} (h : Two b r u v) (g : Two b r' v w) (hr : ∀ j, r' = some j → r = some j ∨ u.heap.size ≤ j) : Two b r u w :=
  ⟨g.os.trans h.os, g.tape.trans h.tape, g.output.trans h.output, Nat.le_trans h.size g.size, fun j hj hn hk => (g.block j (by have := h.size; omega) hn (fun e => by rcases hr j e.symm with h1 | h1; exact hk h1.symm; omega)).trans (h.block j hj hn hk)⟩
theorem Two.below {b B : Nat} {r : Option Nat} {w w' : World} (h : Two b r w w') (h1 : B ≤ w.heap.size) (h2 : B ≤ b) (h3 : ∀ j, r = some j → B ≤ j) : Below B w w' :=
  ⟨h.os, h.tape, h.output, h.size, fun j hj => h.block j (by omega) (by omega) (fun e => by have := h3 j e.symm; omega)⟩
theorem Two.setCell {b : Nat} {r : Option Nat} {u w : World} (h : Two b r u w) (o : Nat) (v : Value) : Two b r u (w.setCell ⟨b, o, none⟩ v) :=
  ⟨h.os, h.tape, h.output, by simpa [World.setCell] using h.size, fun j hj hn hk => by rw [Below.heap_setCell _ _ _ _ (by exact hn)]; exact h.block j hj hn hk⟩
theorem Two.setRow {b g : Nat} {u w : World} (h : Two b (some g) u w) (cs : Array Value) : Two b (some g) u (w.setRow g cs) :=
  ⟨h.os, h.tape, h.output, by simpa [World.setRow] using h.size, fun j hj hn hk => by rw [setRow_other w g j cs (fun e => hk (by rw [e]))]; exact h.block j hj hn hk⟩
theorem Two.grown {b : Nat} {r : Option Nat} {u w w' : World} (h : Two b r u w) {r' : Option Nat} (g : w.grownBy w' r') (hr : ∀ j, r' = some j → r = some j ∨ u.heap.size ≤ j) : Two b r u w' :=
  h.trans ⟨g.os, g.tape, g.output, g.size, fun j hj _ hk => g.block j hj hk⟩ hr
theorem frozen_row {w : World} {b : Nat} {cs : Array Value} {t : TypeId} (hb : w.heap[b]? = some (.cells cs t (0, 0))) (j : Nat) : w.frozen? ⟨b, j, none⟩ = false := by
  simp [World.frozen?, hb]
theorem add_none (g o t : Nat) : (⟨g, o, none⟩ : Addr).add t = ⟨g, o + t, none⟩ := by unfold Addr.add; split <;> simp_all
theorem cell_lt {w : World} {a : Addr} {v : Value} (h : w.cell? a = some v) : a.block < w.heap.size := by
  rcases Nat.lt_or_ge a.block w.heap.size with hlt | hge
  · exact hlt
  · unfold World.cell? at h; rw [Array.getElem?_eq_none hge] at h; simp at h

/-! Rows of the walk's own. -/
theorem own_below {w w' : World} {B base e size n : Nat} {v : Value} {xs : List Value} (h : w.ownsRow base e size v n xs) (hb : Below B w w') (hB : w.heap.size ≤ B) : w'.ownsRow base e size v n xs := by
  refine ⟨h.1, ?_⟩
  rcases h.2 with h0 | ⟨g, cap, cur, hv, hb', hg, rest⟩
  · exact .inl h0
  · have hlt : g < w.heap.size := (Array.getElem?_eq_some_iff.1 hg).1
    exact .inr ⟨g, cap, cur, hv, hb', (hb.block g (by omega)).trans hg, rest⟩
theorem own_kept {w w' : World} {base e size n : Nat} {v : Value} {xs : List Value} (h : w.ownsRow base e size v n xs) (hk : ∀ p, v.ownBlock = some p → p < w.heap.size → w'.heap[p]? = w.heap[p]?) : w'.ownsRow base e size v n xs := by
  refine ⟨h.1, ?_⟩
  rcases h.2 with h0 | ⟨g, cap, cur, rfl, hb', hg, rest⟩
  · exact .inl h0
  · exact .inr ⟨g, cap, cur, rfl, hb', (hk g rfl (heap_lt hg)).trans hg, rest⟩
theorem own_len {w : World} {base e size n : Nat} {v : Value} {xs : List Value} (h : w.ownsRow base e size v n xs) : ∃ A c, v = .slice A n c ∧ n ≤ c ∧ c ≤ maxLen := by
  rcases h.2 with ⟨rfl, rfl⟩ | ⟨g, cap, cur, rfl, hb, hg, hn, hc, rest⟩
  · exact ⟨_, _, rfl, Nat.le_refl _, Nat.zero_le _⟩
  · exact ⟨_, _, rfl, hn, hc⟩
theorem own_lt {w : World} {base e size n p : Nat} {v : Value} {xs : List Value} (h : w.ownsRow base e size v n xs) (hp : v.ownBlock = some p) : base ≤ p ∧ p < w.heap.size ∧ ∃ cur, w.heap[p]? = some (.cells cur e (0, 0)) := by
  rcases h.2 with ⟨rfl, rfl⟩ | ⟨g, cap, cur, rfl, hb, hg, rest⟩
  · simp [Value.ownBlock] at hp
  · simp only [Value.ownBlock, Option.some.injEq] at hp
    subst hp
    exact ⟨hb, heap_lt hg, cur, hg⟩
theorem own_base {w : World} {base base' e size n : Nat} {v : Value} {xs : List Value} (h : w.ownsRow base e size v n xs) (hb : base' ≤ base) : w.ownsRow base' e size v n xs := by
  refine ⟨h.1, ?_⟩
  rcases h.2 with h0 | ⟨g, cap, cur, hv, hb', rest⟩
  · exact .inl h0
  · exact .inr ⟨g, cap, cur, hv, Nat.le_trans hb hb', rest⟩

/-! A copy of things of any size. -/
section
variable {P : Program}
theorem run_copy_k (w : World) (dT sT ty elem : TypeId) (g o dLen dCap sLen sCap size : Nat) (sp : Option Addr) (cur cs : List Value) (t : TypeId)
    (hu : P.underlying dT = some (.slice elem)) (hs : (P.info? elem).map (·.size) = some size) (hg : w.heap[g]? = some (.cells cur.toArray t (0, 0))) (hn : cs.length = Nat.min sLen dLen * size)
    (hsrc : 0 < cs.length → ∃ a, sp = some a ∧ ∀ j v, cs[j]? = some v → w.cell? (a.add j) = some v) (hfit : o + cs.length ≤ cur.length) (h1 : ∀ v ∈ cs, v.oneCell' = true) :
    (Builtin.copy_ #[dT, sT] ty #[.slice (some ⟨g, o, none⟩) dLen dCap, .slice sp sLen sCap]).run P w = .ok (goInt (Nat.min sLen dLen)) (w.setRow g (splice cur o cs).toArray) := by
  have hst := run_storeCells_at P g o t cs 0 cur.toArray w hg (by simpa using hfit) h1
  cases hq : P.info? elem with
  | none => simp [hq] at hs
  | some i =>
    have hi : i.size = size := by simpa [hq] using hs
    have hst' : (storeCells ⟨g, o, none⟩ cs 0).run P w = .ok () (w.setRow g (splice cur o cs).toArray) := by
      rw [hst]; simp [splice]
    cases sp with
    | none =>
      have h0 : cs = [] := by
        rcases Nat.eq_zero_or_pos cs.length with h | h
        · exact List.eq_nil_of_length_eq_zero h
        · obtain ⟨a, ha, _⟩ := hsrc h; cases ha
      subst h0
      simp [Builtin.copy_, run_underlying hu, Builtin.lenOf, Builtin.firstCells, sizeOf, typeInfo, hq, hst']
    | some a =>
      have hl : (loadCells a (Nat.min sLen dLen * size)).run P w = .ok cs.toArray w := by
        rw [← hn]
        refine run_loadCells_list (P := P) w a cs fun j v hv => ?_
        have hj : j < cs.length := (List.getElem?_eq_some_iff.1 hv).1
        obtain ⟨a', ha, hc⟩ := hsrc (by omega)
        injection ha with ha
        subst ha
        exact hc j v hv
      simp [Builtin.copy_, run_underlying hu, Builtin.lenOf, Builtin.firstCells, sizeOf, typeInfo, hq, hi, hl, hst']

theorem wp_copy_k {o : Oper} {a : Act} {w : World} {K : Act → World → Prop} {Q : Exit → Act → World → Prop} (d s : Operand) (dT sT : TypeId)
    (ho : o.op = .call { callee := .builtin .copy, args := #[d, s], argTypes := #[dT, sT] }) (elem : TypeId) (size : Nat) (hu : P.underlying dT = some (.slice elem)) (hsz : (P.info? elem).map (·.size) = some size)
    (g off dLen dCap sLen sCap : Nat) (sp : Option Addr) (hd : a.eval d = .slice (some ⟨g, off, none⟩) dLen dCap) (hs : a.eval s = .slice sp sLen sCap)
    (cur cs : List Value) (t : TypeId) (hg : w.heap[g]? = some (.cells cur.toArray t (0, 0))) (k : Nat) (hk : Nat.min sLen dLen = k) (hn : cs.length = k * size)
    (hsrc : 0 < cs.length → ∃ a, sp = some a ∧ ∀ j v, cs[j]? = some v → w.cell? (a.add j) = some v) (hfit : off + cs.length ≤ cur.length) (h1 : ∀ v ∈ cs, v.oneCell' = true)
    (h : ∀ w', w' = w.setRow g (splice cur off cs).toArray → K (a.put o.dst (.int .i64 k)) w') : o.wp P a w K Q := by
  subst hk
  have hrun := run_copy_k (P := P) w dT sT o.type elem g off dLen dCap sLen sCap size sp cur cs t hu hsz hg hn hsrc hfit h1
  unfold Oper.wp
  simp [execOp, ho, resolve, invoke, builtin, hd, hs, hrun, Result.andThen]
  exact h _ rfl
theorem wpList_copy_k {ops : Array Oper} {rest : List Oper} {o : Oper} {a : Act} {w : World} {Q : Exit → Act → World → Prop} (hgd : o.guard = none) (d s : Operand) (dT sT : TypeId)
    (ho : o.op = .call { callee := .builtin .copy, args := #[d, s], argTypes := #[dT, sT] }) (elem : TypeId) (size : Nat) (hu : P.underlying dT = some (.slice elem)) (hsz : (P.info? elem).map (·.size) = some size)
    (g off dLen dCap sLen sCap : Nat) (sp : Option Addr) (hd : a.eval d = .slice (some ⟨g, off, none⟩) dLen dCap) (hs : a.eval s = .slice sp sLen sCap)
    (cur cs : List Value) (t : TypeId) (hg : w.heap[g]? = some (.cells cur.toArray t (0, 0))) (k : Nat) (hk : Nat.min sLen dLen = k) (hn : cs.length = k * size)
    (hsrc : 0 < cs.length → ∃ a, sp = some a ∧ ∀ j v, cs[j]? = some v → w.cell? (a.add j) = some v) (hfit : off + cs.length ≤ cur.length) (h1 : ∀ v ∈ cs, v.oneCell' = true)
    (h : ∀ w', w' = w.setRow g (splice cur off cs).toArray → wpList P ops Q rest (a.put o.dst (.int .i64 k)) w') : wpList P ops Q (o :: rest) a w :=
  wpList_plain hgd fun _ hK => wp_copy_k d s dT sT ho elem size hu hsz g off dLen dCap sLen sCap sp hd hs cur cs t hg k hk hn hsrc hfit h1 fun w' hw => hK _ _ (h w' hw)
theorem step_copy_k {ops : Array Oper} {o : Oper} {a : Act} {w : World} {K : Act → World → Prop} {Q : Exit → Act → World → Prop} {E : Prop} (hgd : o.guard = none) (d s : Operand) (dT sT : TypeId)
    (ho : o.op = .call { callee := .builtin .copy, args := #[d, s], argTypes := #[dT, sT] }) (elem : TypeId) (size : Nat) (hu : P.underlying dT = some (.slice elem)) (hsz : (P.info? elem).map (·.size) = some size)
    (g off dLen dCap sLen sCap : Nat) (sp : Option Addr) (hd : a.eval d = .slice (some ⟨g, off, none⟩) dLen dCap) (hs : a.eval s = .slice sp sLen sCap)
    (cur cs : List Value) (t : TypeId) (hg : w.heap[g]? = some (.cells cur.toArray t (0, 0))) (k : Nat) (hk : Nat.min sLen dLen = k) (hn : cs.length = k * size)
    (hsrc : 0 < cs.length → ∃ a, sp = some a ∧ ∀ j v, cs[j]? = some v → w.cell? (a.add j) = some v) (hfit : off + cs.length ≤ cur.length) (h1 : ∀ v ∈ cs, v.oneCell' = true)
    (h : ∀ w', w' = w.setRow g (splice cur off cs).toArray → K (a.put o.dst (.int .i64 k)) w') :
    if Region.wanted o (yielded ops a.tmps) = true then Oper.wp P o a w K Q else E := by
  have hw : Region.wanted o (yielded ops a.tmps) = true := by simp [Region.wanted, hgd]
  rw [if_pos hw]
  exact wp_copy_k d s dT sT ho elem size hu hsz g off dLen dCap sLen sCap sp hd hs cur cs t hg k hk hn hsrc hfit h1 h
end

/-! A ring: a struct in block b, of which the row v of n things (their cells: xs) is kept. -/
structure Rg (rT eT sz : Nat) (w : World) (base b m c n : Nat) (v : Value) (xs : List Value) : Prop where
  blk : w.heap[b]? = some (.cells #[.int .i64 (m : Int), v, .int .i64 (c : Int)] rT (0, 0))
  row : w.ownsRow base eT sz v n xs
  one : ∀ x ∈ xs, x.oneCell' = true
  own : base ≤ b
  le : n ≤ m
  ne : rT ≠ eT
section
variable {rT eT sz : Nat} {w w' : World} {base b m c n : Nat} {v : Value} {xs : List Value}
theorem Rg.lt (h : Rg rT eT sz w base b m c n v xs) : b < w.heap.size := heap_lt h.blk
theorem Rg.facts (h : Rg rT eT sz w base b m c n v xs) : w.cell? ⟨b, 0, none⟩ = some (.int .i64 (m : Int)) ∧ w.cell? ⟨b, 1, none⟩ = some v ∧ w.cell? ⟨b, 2, none⟩ = some (.int .i64 (c : Int)) := by
  refine ⟨?_, ?_, ?_⟩
  all_goals (rw [cell_of_row _ _ _ _ _ _ h.blk]; rfl)
theorem Rg.apart (h : Rg rT eT sz w base b m c n v xs) : v.ownBlock ≠ some b := fun e => by
  obtain ⟨_, _, cur, hg⟩ := own_lt h.row e
  rw [h.blk] at hg
  injection hg with hg
  injection hg with _ ht _
  exact h.ne ht
theorem Rg.below {B : Nat} (h : Rg rT eT sz w base b m c n v xs) (hb : Below B w w') (hB : w.heap.size ≤ B) : Rg rT eT sz w' base b m c n v xs :=
  ⟨(hb.block b (by have := h.lt; omega)).trans h.blk, own_below h.row hb hB, h.one, h.own, h.le, h.ne⟩
/-- Another ring's writing leaves this one. -/
theorem Rg.two {b' : Nat} {r : Option Nat} (h : Rg rT eT sz w base b m c n v xs) (hb : Two b' r w w') (h1 : b ≠ b') (h2 : r ≠ some b) (h3 : v.ownBlock ≠ some b') (h4 : ∀ p, v.ownBlock = some p → r ≠ some p) : Rg rT eT sz w' base b m c n v xs :=
  ⟨(hb.block b h.lt h1 (fun e => h2 e.symm)).trans h.blk, own_kept h.row fun p hp hl => hb.block p hl (fun e => h3 (by rw [hp, e])) (fun e => h4 p hp e.symm), h.one, h.own, h.le, h.ne⟩
/-- The row behind a copy of all but the first thing, one place ahead. -/
theorem own_dropped {e k cp g : Nat} {cur : List Value} {xs : List Value} (hx : cur.take ((k + 1) * sz) = xs) (hl : cur.length = cp * sz) (hc : k + 1 ≤ cp) (hm : cp ≤ maxLen) (hb : base ≤ g)
    (hg : w.heap[g]? = some (.cells (splice cur 0 (xs.drop sz)).toArray e (0, 0))) : w.ownsRow base e sz (.slice (some ⟨g, 0, none⟩) k cp) k (xs.drop sz) := by
  have hle : (k + 1) * sz ≤ cp * sz := Nat.mul_le_mul_right _ hc
  have hxl : xs.length = (k + 1) * sz := by rw [← hx, List.length_take, hl]; omega
  have e1 : (k + 1) * sz = k * sz + sz := Nat.succ_mul k sz
  have hdl : (xs.drop sz).length = k * sz := by rw [List.length_drop, hxl]; omega
  refine ⟨hdl, .inr ⟨g, cp, _, rfl, hb, hg, by omega, hm, ?_, ?_⟩⟩
  · simp only [List.size_toArray]
    rw [length_splice _ _ _ (by rw [hdl, hl]; omega), hl]
  · simp only [splice, List.take_zero, List.nil_append]
    rw [List.take_append_of_le_length (by omega), List.take_of_length_le (by omega)]
/-- What a ring's row is made of. -/
theorem Rg.open (h : Rg rT eT sz w base b m c n v xs) (hn : 0 < n) : ∃ g cp cur, v = .slice (some ⟨g, 0, none⟩) n cp ∧ base ≤ g ∧ w.heap[g]? = some (.cells (List.toArray cur) eT (0, 0)) ∧ n ≤ cp ∧ cp ≤ maxLen ∧ cur.length = cp * sz ∧ cur.take (n * sz) = xs ∧ b ≠ g := by
  rcases h.row.2 with ⟨_, h0⟩ | ⟨g, cp, cur, hv, hb, hg, h1, h2, h3, h4⟩
  · omega
  · refine ⟨g, cp, cur.toList, hv, hb, by simpa using hg, h1, h2, by simpa using h3, h4, fun e => ?_⟩
    subst e hv
    exact h.apart rfl
theorem Rg.base_le (h : Rg rT eT sz w base b m c n v xs) : base ≤ w.heap.size := by have := h.own; have := h.lt; omega
theorem Rg.drop_end {g cp k : Nat} {cur : List Value} (h : Rg rT eT sz w base b m c (k + 1) (.slice (some ⟨g, 0, none⟩) (k + 1) cp) xs) (hx : cur.take ((k + 1) * sz) = xs) (hl : cur.length = cp * sz) (hc : k + 1 ≤ cp) (hm : cp ≤ maxLen) (hb : base ≤ g)
    (h1 : w'.heap[b]? = some (.cells #[.int .i64 (m : Int), .slice (some ⟨g, 0, none⟩) k cp, .int .i64 (c : Int)] rT (0, 0))) (h2 : w'.heap[g]? = some (.cells (splice cur 0 (xs.drop sz)).toArray eT (0, 0))) :
    Rg rT eT sz w' base b m c k (.slice (some ⟨g, 0, none⟩) k cp) (xs.drop sz) :=
  ⟨h1, own_dropped hx hl hc hm hb h2, fun x hx => h.one x (List.mem_of_mem_drop hx), h.own, by have := h.le; omega, h.ne⟩
/-- A ring behind an append to its row, ahead of the stores. -/
theorem Rg.snoc_blk {w1 w2 : World} {o : Obj} (h : Rg rT eT sz w base b m c n v xs) (hw : w1 = w.alloc o) (hg : w1.grownBy w2 v.ownBlock) : w2.heap[b]? = some (.cells #[.int .i64 (m : Int), v, .int .i64 (c : Int)] rT (0, 0)) := by
  subst hw
  rw [hg.block b (by have := h.lt; simp; omega) (fun e => h.apart e.symm), Below.heap_alloc _ _ _ h.lt]
  exact h.blk
theorem Rg.snoc_end {w1 w2 : World} {o : Obj} {p cp : Nat} {cs : List Value} {ci : Int} (h : Rg rT eT sz w base b m c n v xs) (hnm : n < m) (hw : w1 = w.alloc o) (hg : w1.grownBy w2 v.ownBlock)
    (ho : w2.ownsRow base eT sz (.slice (some ⟨p, 0, none⟩) (n + 1) cp) (n + 1) (xs ++ cs)) (h1 : ∀ x ∈ cs, x.oneCell' = true) (hat : v.ownBlock = some p ∨ p = w1.heap.size) (hci : ci = ((c + 1 : Nat) : Int)) :
    Rg rT eT sz ((w2.setCell ⟨b, 1, none⟩ (.slice (some ⟨p, 0, none⟩) (n + 1) cp)).setCell ⟨b, 2, none⟩ (.int .i64 ci)) base b m (c + 1) (n + 1) (.slice (some ⟨p, 0, none⟩) (n + 1) cp) (xs ++ cs) ∧
    Two b v.ownBlock w ((w2.setCell ⟨b, 1, none⟩ (.slice (some ⟨p, 0, none⟩) (n + 1) cp)).setCell ⟨b, 2, none⟩ (.int .i64 ci)) ∧ (v.ownBlock = some p ∨ w.heap.size ≤ p) := by
  have hb2 := h.snoc_blk hw hg
  have hpb : p ≠ b := by
    rcases hat with e | e
    · intro hp; subst hp; exact h.apart e
    · have := h.lt; subst hw; simp at e; omega
  subst hci
  refine ⟨⟨?_, ?_, ?_, h.own, by omega, h.ne⟩, ?_, ?_⟩
  · have q1 := heap_setCell_same w2 b 1 (.slice (some ⟨p, 0, none⟩) (n + 1) cp) _ _ _ hb2
    exact heap_setCell_same _ b 2 (.int .i64 ((c + 1 : Nat) : Int)) _ _ _ q1
  · refine own_kept ho fun q hq _ => ?_
    simp only [Value.ownBlock, Option.some.injEq] at hq
    subst hq
    rw [Below.heap_setCell _ _ _ _ (by exact hpb), Below.heap_setCell _ _ _ _ (by exact hpb)]
  · intro x hx
    rcases List.mem_append.1 hx with hx | hx
    · exact h.one x hx
    · exact h1 x hx
  · have h0 : Two b v.ownBlock w w1 := Two.of_below (by subst hw; exact (Below.refl _ _).alloc (Nat.le_refl _) _)
    exact ((h0.grown hg (fun j hj => .inl hj)).setCell 1 _).setCell 2 _
  · rcases hat with e | e
    · exact .inl e
    · right; subst hw; simp at e; omega
/-- What Add leaves: of a full ring the oldest thing goes. -/
def pushed (m n sz : Nat) (xs cs : List Value) : List Value := (if n = m then xs.drop sz else xs) ++ cs
structure Added (rT eT sz : Nat) (w w' : World) (base b m c n : Nat) (v : Value) (xs cs : List Value) (v' : Value) : Prop where
  ring : Rg rT eT sz w' base b m (c + 1) (min (n + 1) m) v' (pushed m n sz xs cs)
  two : Two b v.ownBlock w w'
  at' : ∀ p, v'.ownBlock = some p → v.ownBlock = some p ∨ w.heap.size ≤ p
theorem Added.room {v' : Value} {cs : List Value} (hnm : n < m) (h : Rg rT eT sz w' base b m (c + 1) (n + 1) v' (xs ++ cs)) (h2 : Two b v.ownBlock w w') (h3 : ∀ p, v'.ownBlock = some p → v.ownBlock = some p ∨ w.heap.size ≤ p) : Added rT eT sz w w' base b m c n v xs cs v' := by
  refine ⟨?_, h2, h3⟩
  rw [Nat.min_eq_left (by omega)]
  unfold pushed
  rw [if_neg (by omega)]
  exact h
theorem Added.full {k : Nat} {v' : Value} {cs : List Value} (h : Rg rT eT sz w' base b (k + 1) (c + 1) (k + 1) v' (xs.drop sz ++ cs)) (h2 : Two b v.ownBlock w w') (h3 : ∀ p, v'.ownBlock = some p → v.ownBlock = some p ∨ w.heap.size ≤ p) : Added rT eT sz w w' base b (k + 1) c (k + 1) v xs cs v' := by
  refine ⟨?_, h2, h3⟩
  rw [Nat.min_eq_right (by omega)]
  unfold pushed
  rw [if_pos rfl]
  exact h
end
theorem Rg.drewn {rT eT sz base b m c n : Nat} {w W : World} {v : Value} {xs : List Value} (h : Rg rT eT sz w base b m c n v xs) (hW : W = World.mk w.heap w.tape (w.drawn + 1) w.os w.output) : Rg rT eT sz W base b m c n v xs := by
  subst hW; exact ⟨h.blk, h.row, h.one, h.own, h.le, h.ne⟩
theorem Two.drewn {w W : World} (hW : W = World.mk w.heap w.tape (w.drawn + 1) w.os w.output) (b : Nat) (r : Option Nat) : Two b r w W := by
  subst hW; exact ⟨rfl, rfl, rfl, Nat.le_refl _, fun _ _ _ _ => rfl⟩
theorem at_of {w W : World} {v : Value} {p cp n : Nat} (h : v.ownBlock = some p ∨ W.heap.size ≤ p) (hs : w.heap.size ≤ W.heap.size) : ∀ q, (Value.slice (some ⟨p, 0, none⟩) n cp).ownBlock = some q → v.ownBlock = some q ∨ w.heap.size ≤ q := by
  intro q hq
  simp only [Value.ownBlock, Option.some.injEq] at hq
  subst hq
  rcases h with h | h
  · exact .inl h
  · exact .inr (by omega)
/-- A row that was copied into a new one. -/
theorem own_copied {w : World} {H base e sz n : Nat} {cur xs : List Value} (hg : w.heap[H]? = some (.cells cur.toArray e (0, 0))) (h1 : cur.length = n * sz) (h2 : xs.length = n * sz) (hb : base ≤ H) (hn : n ≤ maxLen) :
    (w.setRow H (splice cur 0 xs).toArray).ownsRow base e sz (.slice (some ⟨H, 0, none⟩) n n) n xs := by
  refine ⟨h2, .inr ⟨H, n, _, rfl, hb, setRow_heap w H _ _ e _ hg, Nat.le_refl _, hn, ?_, ?_⟩⟩
  · simp only [List.size_toArray]
    rw [length_splice _ _ _ (by omega), h1]
  · simp only [splice, List.take_zero, List.nil_append]
    rw [List.take_append_of_le_length (by omega), List.take_of_length_le (by omega)]
theorem own_src {w : World} {base e sz n cp : Nat} {A : Option Addr} {xs : List Value} (h : w.ownsRow base e sz (.slice A n cp) n xs) (h0 : 0 < xs.length) : ∃ a, A = some a ∧ ∀ j v, xs[j]? = some v → w.cell? (a.add j) = some v := by
  rcases h.2 with ⟨e1, rfl⟩ | ⟨g, cap, cur, e1, hb, hg, rest⟩
  · have := h.1; omega
  · injection e1 with e1 _ e3
    subst e1 e3
    exact ⟨_, rfl, h.cells rfl⟩
theorem own_new {w : World} {H e sz n : Nat} {ys : List Value} (h : w.ownsRow H e sz (.slice (some ⟨H, 0, none⟩) n n) n ys) : ∃ cur : List Value, w.heap[H]? = some (.cells cur.toArray e (0, 0)) ∧ cur.length = n * sz := by
  rcases h.2 with ⟨e1, _⟩ | ⟨g, cap, cur, e1, hb, hg, _, _, hs, _⟩
  · cases e1
  · injection e1 with e1 _ e3
    injection e1 with e1
    injection e1 with e1 _ _
    subst e1 e3
    exact ⟨cur.toList, by simpa using hg, by simpa using hs⟩
theorem Below.setRow' {H : Nat} {w w1 : World} (h : Below w.heap.size w w1) (hH : w.heap.size ≤ H) (cs : Array Value) : Below w.heap.size w (w1.setRow H cs) :=
  ⟨h.os, h.tape, h.output, by simpa [World.setRow] using h.size, fun k hk => by rw [setRow_other w1 H k cs (by omega)]; exact h.block k hk⟩
/-- A thing of a row of things of one cell. -/
theorem own_one {w : World} {base e n cp k : Nat} {A : Option Addr} {xs : List Value} {x : Value} (h : w.ownsRow base e 1 (.slice A n cp) n xs) (hx : xs[k]? = some x) : ∃ g, A = some ⟨g, 0, none⟩ ∧ w.cell? ⟨g, k, none⟩ = some x := by
  have hk : k < xs.length := (List.getElem?_eq_some_iff.1 hx).1
  rcases h.2 with ⟨e1, rfl⟩ | ⟨g, cap, cur, e1, hb, hg, rest⟩
  · have := h.1; omega
  · injection e1 with e1 _ e3
    subst e1 e3
    exact ⟨g, rfl, (h.cellAt k (by have := h.1; omega)).trans hx⟩
theorem results_cell2 {P : Program} {fn : Func} {p t : Tmp} {ty : TypeId} (h : fn.results = #[.cell p ty, .tmp t]) (tmps : Array Value) (w : World) (g : Nat) (t' : TypeId) (cs : Array Value) (fr : Nat × Nat) (d : TypeDesc)
    (hp : tmps.getD p undef = .pointer (some ⟨g, 0, none⟩)) (hg : w.heap[g]? = some (.cells cs t' fr))
    (hu : P.underlying ty = some d) (hd : (match d with | .struct _ | .array _ _ => true | _ => false) = true) (hi : (P.info? ty).map (·.size) = some cs.size) :
    (results fn tmps).run P w = .ok (.tuple #[.agg cs, tmps.getD t undef]) w := by
  have hp' : tmps[p]?.getD undef = .pointer (some ⟨g, 0, none⟩) := by simpa using hp
  simp [results, h, hp', asAddr, run_loadVar_row w g t' ty cs fr d hg hu hd hi]
/-- A thing of a row of things of two cells. -/
theorem own_two {w : World} {base e n cp k : Nat} {A : Option Addr} {xs : List Value} {x y : Value} (h : w.ownsRow base e 2 (.slice A n cp) n xs) (hx : xs[k * 2]? = some x) (hy : xs[k * 2 + 1]? = some y) : ∃ g, A = some ⟨g, 0, none⟩ ∧ w.cell? ⟨g, k * 2, none⟩ = some x ∧ w.cell? ⟨g, k * 2 + 1, none⟩ = some y := by
  have hk : k * 2 + 1 < xs.length := (List.getElem?_eq_some_iff.1 hy).1
  rcases h.2 with ⟨e1, rfl⟩ | ⟨g, cap, cur, e1, hb, hg, rest⟩
  · have := h.1; omega
  · injection e1 with e1 _ e3
    subst e1 e3
    exact ⟨g, rfl, (h.cellAt _ (by have := h.1; omega)).trans hx, (h.cellAt _ (by have := h.1; omega)).trans hy⟩
theorem one_one {v : Value} (h : v.oneCell' = true) : ∀ u ∈ [v], u.oneCell' = true := fun u hu => by
  simp only [List.mem_singleton] at hu; subst hu; exact h
end Go.Proofs.YtjjcoblbiagflaaGreat
