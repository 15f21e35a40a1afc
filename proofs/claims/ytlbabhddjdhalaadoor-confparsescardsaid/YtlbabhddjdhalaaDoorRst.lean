/- What a line does to the document's own config and marks in memory. -/
import Derived.Test.YtlbabhddjdhalaaDoorRnums
import Derived.Test.YtlbabhddjdhalaaDoorSets3
import Derived.Test.YtlbabhddjdhalaaDoorInv
import Derived.Deep.AppendLies
import Derived.Deep.RegionHeld
import Derived.BigQuiet
namespace Go.Proofs.YtlbabhddjdhalaaDoor
open Go.RowKit Go.Proofs.Lx

/-- The config in block bc, the marks of its words in the next. -/
structure Rst (w : World) (bc : Nat) (st : St) : Prop where
  cell : Cell w (bc + 2) bc st.c
  seen : w.heap[bc + 1]? = some (.cells #[.bool st.b0, .bool st.b1, .bool st.b2, .bool st.b3, .bool st.b4] 76 (0, 0))
  len : st.c.S.length ≤ 16
theorem Rst.below {w w' : World} {bc B : Nat} {st : St} (h : Rst w bc st) (hb : Below B w w') (hB : w.heap.size ≤ B) : Rst w' bc st :=
  ⟨h.cell.below hb hB, (hb.block (bc + 1) (by have := (Array.getElem?_eq_some_iff.1 h.seen).1; omega)).trans h.seen, h.len⟩
theorem Rst.lt {w : World} {bc : Nat} {st : St} (h : Rst w bc st) : bc + 1 < w.heap.size := (Array.getElem?_eq_some_iff.1 h.seen).1
def LinePost (w : World) (bc : Nat) (r : Nat × St) (e : Ending) (w' : World) : Prop :=
  e = .returned (.int .i64 (r.1 : Nat)) ∧ (r.1 = 0 → Rst w' bc r.2) ∧ Below bc w w'
theorem lnp_bad {w w' : World} {bc n : Nat} {r : Nat × St} {st : St} (h : r = (n, st)) (hn : n ≠ 0) (hb : Below bc w w') : LinePost w bc r (.returned (.int .i64 (n : Nat))) w' := by
  subst h; exact ⟨rfl, fun e => absurd e hn, hb⟩
theorem lnp_ok {w w' : World} {bc : Nat} {r : Nat × St} {st : St} (h : r = (0, st)) (hr : Rst w' bc st) (hb : Below bc w w') : LinePost w bc r (.returned (.int .i64 ((0 : Nat) : Int))) w' := by
  subst h; exact ⟨rfl, fun _ => hr, hb⟩
theorem five_bools {w : World} {g : Nat} {a b c d e : Bool} (h : w.heap[g]? = some (.cells #[.bool a, .bool b, .bool c, .bool d, .bool e] 76 (0, 0))) : w.cell? ⟨g, 0, none⟩ = some (.bool a) ∧ w.cell? ⟨g, 1, none⟩ = some (.bool b) ∧ w.cell? ⟨g, 2, none⟩ = some (.bool c) ∧ w.cell? ⟨g, 3, none⟩ = some (.bool d) ∧ w.cell? ⟨g, 4, none⟩ = some (.bool e) ∧ ∀ j, w.frozen? ⟨g, j, none⟩ = false := by
  refine ⟨?_, ?_, ?_, ?_, ?_, fun j => Lib.frozen_of_heap h j⟩
  all_goals (rw [Lib.cell_of_heap h]; rfl)
theorem below_set {B : Nat} {w w' : World} {g o : Nat} {v : Value} (h : Below B w w') (hg : B ≤ g) : Below B w (w'.setCell ⟨g, o, none⟩ v) :=
  ⟨h.os, h.tape, h.output, by simpa [World.setCell] using h.size, fun k hk => (Below.heap_setCell _ _ _ _ (by simp; omega)).trans (h.block k hk)⟩
theorem below_al {B : Nat} {w w' : World} (h : Below B w w') (hB : B ≤ w.heap.size) (o : Obj) : Below B w (w'.alloc o) := h.alloc (Nat.le_trans hB h.size) o
theorem rst_al {w : World} {bc : Nat} {st : St} (h : Rst w bc st) (o : Obj) : Rst (w.alloc o) bc st := h.below (below_alloc _ _) (Nat.le_refl _)
theorem row_snocN' {w : World} {base n : Nat} {v : Value} {xs : List Int} {x : Int} (hn : xs.length = n) (h : w.ownsRow base 3 1 v (n + 1) (xs.map (Value.int .i64) ++ [.int .i64 x])) : Row w base v (xs ++ [x]) := by
  subst hn; exact row_snoc h
theorem take_mem_succ' {S : List Int} {j : Nat} {y : Int} (h : j < S.length) (hn : y ∉ S.take j) (hne : S[j] ≠ y) : y ∉ S.take (j + 1) := by
  rw [List.take_succ_eq_append_getElem h]
  simp only [List.mem_append, List.mem_singleton, not_or]
  exact ⟨hn, fun e => hne e.symm⟩
theorem below_dn {B : Nat} {w w' : World} (h : Below B w w') (n : Nat) : Below B w (w'.drewN n) := ⟨h.os, h.tape, h.output, h.size, h.block⟩
/-- A mark set. -/
theorem cell_mark {w : World} {bc o : Nat} {c : Cfg} {v : Value} (h : Cell w (bc + 2) bc c) : Cell (w.setCell ⟨bc + 1, o, none⟩ v) (bc + 2) bc c := by
  obtain ⟨u, h1, h2⟩ := h
  exact ⟨u, (Below.heap_setCell _ _ _ _ (by simp)).trans h1, row_set h2 (by omega)⟩
theorem seen_other {w : World} {bc o : Nat} {v : Value} {x : Obj} (h : w.heap[bc + 1]? = some x) : (w.setCell ⟨bc, o, none⟩ v).heap[bc + 1]? = some x := (Below.heap_setCell _ _ _ _ (by simp)).trans h
theorem seen_set {w : World} {bc o : Nat} {v : Value} {cs : Array Value} (h : w.heap[bc + 1]? = some (.cells cs 76 (0, 0))) : (w.setCell ⟨bc + 1, o, none⟩ v).heap[bc + 1]? = some (.cells (cs.setIfInBounds o v) 76 (0, 0)) := heap_setCell_same _ _ _ _ _ _ h

/-! ### the words -/
def wordK : Nat → Bs
  | 0 => wServer
  | 1 => wQuorum
  | 2 => wPoll
  | 3 => wDelay
  | _ => wSlew
def fiveW : Array Value := #[.string ⟨#[115, 101, 114, 118, 101, 114]⟩, .string ⟨#[113, 117, 111, 114, 117, 109]⟩, .string ⟨#[112, 111, 108, 108]⟩, .string ⟨#[100, 101, 108, 97, 121]⟩, .string ⟨#[115, 108, 101, 119]⟩]
theorem word_at {w : World} {g : Nat} (h : w.heap[g]? = some (.cells fiveW 9 (0, 0))) (k : Nat) (hk : k < 5) : ∃ q : ByteArray, w.cell? ⟨g, k, none⟩ = some (.string q) ∧ q.data.toList = wordK k := by
  match k, hk with
  | 0, _ => exact ⟨_, Lib.cell_of_heap h 0, rfl⟩
  | 1, _ => exact ⟨_, Lib.cell_of_heap h 1, rfl⟩
  | 2, _ => exact ⟨_, Lib.cell_of_heap h 2, rfl⟩
  | 3, _ => exact ⟨_, Lib.cell_of_heap h 3, rfl⟩
  | 4, _ => exact ⟨_, Lib.cell_of_heap h 4, rfl⟩
theorem word_ne {p q : ByteArray} (h : q.data.toList ≠ p.data.toList) : (q.toList == p.toList) = false := by
  rw [ByteArray.toList_eq, ByteArray.toList_eq]; simpa using h
theorem word_eq {p q : ByteArray} (h : q.data.toList = p.data.toList) : (q.toList == p.toList) = true := by
  rw [ByteArray.toList_eq, ByteArray.toList_eq, h]; simp

/-! ### what is done, by its cases -/
theorem doL_server (st : St) (r : List Bs) : doL st (wServer :: r) = doServer st r := rfl
theorem doL_quorum (st : St) (r : List Bs) : doL st (wQuorum :: r) = doOnce setQ (fun s => { s with b1 := true }) 1 st.b1 st r := by
  show doW st wQuorum r = _
  unfold doW
  rw [if_neg (by decide), if_pos rfl]
theorem doL_poll (st : St) (r : List Bs) : doL st (wPoll :: r) = doOnce setP (fun s => { s with b2 := true }) 2 st.b2 st r := by
  show doW st wPoll r = _
  unfold doW
  rw [if_neg (by decide), if_neg (by decide), if_pos rfl]
theorem doL_delay (st : St) (r : List Bs) : doL st (wDelay :: r) = doOnce setD (fun s => { s with b3 := true }) 1 st.b3 st r := by
  show doW st wDelay r = _
  unfold doW
  rw [if_neg (by decide), if_neg (by decide), if_neg (by decide), if_pos rfl]
theorem doL_slew (st : St) (r : List Bs) : doL st (wSlew :: r) = doOnce setSl (fun s => { s with b4 := true }) 1 st.b4 st r := by
  show doW st wSlew r = _
  unfold doW
  rw [if_neg (by decide), if_neg (by decide), if_neg (by decide), if_neg (by decide), if_pos rfl]
theorem doL_none (st : St) (l : Bs) (r : List Bs) (h : ∀ k, k < 5 → l ≠ wordK k) : doL st (l :: r) = (10, st) := by
  show doW st l r = _
  unfold doW
  have h0 : l ≠ wServer := h 0 (by decide)
  have h1 : l ≠ wQuorum := h 1 (by decide)
  have h2 : l ≠ wPoll := h 2 (by decide)
  have h3 : l ≠ wDelay := h 3 (by decide)
  have h4 : l ≠ wSlew := h 4 (by decide)
  rw [if_neg h0, if_neg h1, if_neg h2, if_neg h3, if_neg h4]
theorem nums_form (r : List Bs) (k : Nat) (h : r.length ≠ k) : numbersOf r k = ([], 6) := if_neg h
theorem nums_full (r : List Bs) (k : Nat) (h : r.length = k) : numbersOf r k = numsF [] r := if_pos h
theorem srv_bad {st : St} {r : List Bs} {e : Nat} (h : (numbersOf r 1).2 = e) (he : e ≠ 0) : doServer st r = (e, st) := by
  unfold doServer
  rw [h, if_neg he]
theorem srv_ok {st : St} {r : List Bs} {x : Int} (h : numbersOf r 1 = ([x], 0)) : doServer st r = if (addS st.c x).1 = 0 then (0, { st with c := (addS st.c x).2, b0 := true }) else ((addS st.c x).1, st) := by
  unfold doServer
  rw [h]; rfl
theorem srv_twice {st : St} {r : List Bs} {x : Int} (h : numbersOf r 1 = ([x], 0)) (hx : x ∈ st.c.S) : doServer st r = (12, st) := by
  rw [srv_ok h, show addS st.c x = (12, st.c) from if_pos hx]; rfl
theorem srv_full {st : St} {r : List Bs} {x : Int} (h : numbersOf r 1 = ([x], 0)) (hx : x ∉ st.c.S) (hl : st.c.S.length = 16) : doServer st r = (11, st) := by
  rw [srv_ok h, show addS st.c x = (11, st.c) from (if_neg hx).trans (if_pos hl)]; rfl
theorem srv_add {st : St} {r : List Bs} {x : Int} (h : numbersOf r 1 = ([x], 0)) (hx : x ∉ st.c.S) (hl : ¬ st.c.S.length = 16) : doServer st r = (0, { st with c := { st.c with S := st.c.S ++ [x] }, b0 := true }) := by
  rw [srv_ok h, show addS st.c x = (0, { st.c with S := st.c.S ++ [x] }) from (if_neg hx).trans (if_neg hl)]; rfl
theorem once_bad {set : Cfg → List Int → Cfg} {mark : St → St} {k : Nat} {again : Bool} {st : St} {r : List Bs} {e : Nat} (h : (numbersOf r k).2 = e) (he : e ≠ 0) : doOnce set mark k again st r = (e, st) := by
  unfold doOnce
  rw [h, if_neg he]
theorem once_twice {set : Cfg → List Int → Cfg} {mark : St → St} {k : Nat} {again : Bool} {st : St} {r : List Bs} {ns : List Int} (h : numbersOf r k = (ns, 0)) (ha : again = true) : doOnce set mark k again st r = (12, st) := by
  unfold doOnce
  rw [h, ha]; rfl
theorem once_ok {set : Cfg → List Int → Cfg} {mark : St → St} {k : Nat} {again : Bool} {st : St} {r : List Bs} {ns : List Int} (h : numbersOf r k = (ns, 0)) (ha : again = false) : doOnce set mark k again st r = (0, mark { st with c := set st.c ns }) := by
  unfold doOnce
  rw [h, ha]; rfl
/-- What an append to the servers' row leaves as it was. -/
theorem srv_grown {wd w2 : World} {bc B k : Nat} {v : Value} {xs : List Value} {O : Obj} (hr : wd.ownsRow (bc + 2) 3 1 v k xs) (ho : ∀ q, v.ownBlock = some q → q < B) (hlt : bc + 2 ≤ wd.heap.size) (hgr : (wd.alloc O).grownBy w2 v.ownBlock) :
    (∀ i, i < bc + 2 → w2.heap[i]? = wd.heap[i]?) ∧ (∀ p, B ≤ p.block → p.block < wd.heap.size → w2.cell? p = wd.cell? p) ∧ (∀ C w0, Below C w0 wd → C ≤ bc + 2 → Below C w0 w2) := by
  have key : ∀ i, i < bc + 2 → w2.heap[i]? = wd.heap[i]? := fun i hi => by
    rw [hgr.block i (by simp; omega) (fun e => by have := (World.ownsRow.lt hr i e.symm).1; omega), heap_alloc_old _ _ (by omega)]
  refine ⟨key, fun p h1 h2 => ?_, fun C w0 hb hC => ⟨hgr.os.trans hb.os, hgr.tape.trans hb.tape, hgr.output.trans hb.output, ?_, fun i hi => (key i (by omega)).trans (hb.block i hi)⟩⟩
  · have h3 : w2.cell? p = (wd.alloc O).cell? p := hgr.cell_far p (by simp; omega) (fun e => by have := ho _ e.symm; omega)
    rw [h3]
    exact (below_alloc wd O).cell h2
  · have := hgr.size
    have := hb.size
    simp at *; omega
end Go.Proofs.YtlbabhddjdhalaaDoor
