/- What holds at each round of Parse. -/
import Derived.Test.YtlbabhddjdhalaaDoorWords
import Derived.Test.YtlbabhddjdhalaaDoorLines
import Derived.Test.YtlbabhddjdhalaaDoorSizes
import Derived.Laws.Tables
namespace Go.Proofs.YtlbabhddjdhalaaDoor
open Go.RowKit Go.Proofs.Lx Go.Maps Go.WideMaps

def tt : DataW Unit := .lit (.bool true)
def putIf (b : Bool) (k : Bs) (d : DataW Unit) : DataW Unit := if b then d.put (.string k) tt else d
/-- The map of the words that were there. -/
def dOf (b0 b1 b2 b3 b4 : Bool) : DataW Unit := putIf b4 wSlew (putIf b3 wDelay (putIf b2 wPoll (putIf b1 wQuorum (putIf b0 wServer (.map [])))))
theorem dOf_at (b0 b1 b2 b3 b4 : Bool) : (dOf b0 b1 b2 b3 b4).atKey (.string wServer) (.lit (.bool false)) = .lit (.bool b0) ∧ (dOf b0 b1 b2 b3 b4).atKey (.string wQuorum) (.lit (.bool false)) = .lit (.bool b1) ∧ (dOf b0 b1 b2 b3 b4).atKey (.string wPoll) (.lit (.bool false)) = .lit (.bool b2) ∧ (dOf b0 b1 b2 b3 b4).atKey (.string wDelay) (.lit (.bool false)) = .lit (.bool b3) ∧ (dOf b0 b1 b2 b3 b4).atKey (.string wSlew) (.lit (.bool false)) = .lit (.bool b4) := by
  cases b0 <;> cases b1 <;> cases b2 <;> cases b3 <;> cases b4 <;> exact ⟨by kernel_rfl, by kernel_rfl, by kernel_rfl, by kernel_rfl, by kernel_rfl⟩
theorem dOf_put (b0 b1 b2 b3 b4 : Bool) : (dOf b0 b1 b2 b3 b4).put (.string wServer) tt = dOf true b1 b2 b3 b4 ∧ (dOf b0 b1 b2 b3 b4).put (.string wQuorum) tt = dOf b0 true b2 b3 b4 ∧ (dOf b0 b1 b2 b3 b4).put (.string wPoll) tt = dOf b0 b1 true b3 b4 ∧ (dOf b0 b1 b2 b3 b4).put (.string wDelay) tt = dOf b0 b1 b2 true b4 ∧ (dOf b0 b1 b2 b3 b4).put (.string wSlew) tt = dOf b0 b1 b2 b3 true := by
  cases b0 <;> cases b1 <;> cases b2 <;> cases b3 <;> cases b4 <;> exact ⟨by kernel_rfl, by kernel_rfl, by kernel_rfl, by kernel_rfl, by kernel_rfl⟩
theorem dOf_size (b0 b1 b2 b3 b4 : Bool) : Maps.size (dOf b0 b1 b2 b3 b4) = b0.toNat + b1.toNat + b2.toNat + b3.toNat + b4.toNat := by
  cases b0 <;> cases b1 <;> cases b2 <;> cases b3 <;> cases b4 <;> kernel_rfl
theorem dOf_lack (b0 b1 b2 b3 b4 : Bool) : decide (((Maps.size (dOf b0 b1 b2 b3 b4) : Nat) : Int) < 5) = !(b0 && b1 && b2 && b3 && b4) := by
  rw [dOf_size]
  cases b0 <;> cases b1 <;> cases b2 <;> cases b3 <;> cases b4 <;> rfl

variable {bx q1 q2 p1 p2 d1 d2 s1 s2 : Nat}
theorem D5_size : Maps.size (D5 bx q1 q2 p1 p2 d1 d2 s1 s2) = 5 := rfl
theorem D5_at : (∀ z, (D5 bx q1 q2 p1 p2 d1 d2 s1 s2).atKey (.string wServer) z = .held (fS bx)) ∧ (∀ z, (D5 bx q1 q2 p1 p2 d1 d2 s1 s2).atKey (.string wQuorum) z = .held (fO q1 q2)) ∧ (∀ z, (D5 bx q1 q2 p1 p2 d1 d2 s1 s2).atKey (.string wPoll) z = .held (fO p1 p2)) ∧ (∀ z, (D5 bx q1 q2 p1 p2 d1 d2 s1 s2).atKey (.string wDelay) z = .held (fO d1 d2)) ∧ (∀ z, (D5 bx q1 q2 p1 p2 d1 d2 s1 s2).atKey (.string wSlew) z = .held (fO s1 s2)) :=
  ⟨fun _ => rfl, fun _ => rfl, fun _ => rfl, fun _ => rfl, fun _ => rfl⟩
theorem D5_none (l : Bs) (h0 : l ≠ wServer) (h1 : l ≠ wQuorum) (h2 : l ≠ wPoll) (h3 : l ≠ wDelay) (h4 : l ≠ wSlew) (z : DataW Value) : (D5 bx q1 q2 p1 p2 d1 d2 s1 s2).atKey (.string l) z = z := by
  have ne {a : Bs} (h : l ≠ a) : (Lit.string l) ≠ .string a := fun e => h (by injection e)
  unfold D5
  rw [atKey_put_other (ne h4), atKey_put_other (ne h3), atKey_put_other (ne h2), atKey_put_other (ne h1), atKey_put_other (ne h0)]
  rfl
theorem zero71 (w : World) : (zeroValue 71).run Tryd.prog w = .ok .nilFunc w := by kernel_rfl
theorem zero4 (w : World) : (zeroValue 4).run Tryd.prog w = .ok (.bool false) w := by kernel_rfl
theorem look_word {w : World} {bm n : Nat} {D : DataW Value} {p : ByteArray} {f : Value} (h : w.ownsMap Tryd.prog 9 fR bm n D) (hp : p.size ≤ maxLen) (hat : ∀ z, D.atKey (.string p.data.toList) z = .held f) :
    (Instr.lookup 64 (.map (some bm)) (.string p) true).run Tryd.prog w = .ok (.tuple #[f, .bool true]) w := by
  obtain ⟨v, ps, hrun, hv⟩ := h.look_ok law9 Tryd.underlying64 (zero71 w) (zd := .held .nilFunc) (zp := []) rfl (keyOf_string_mk Tryd.underlying9 hp)
  rw [hat] at hv
  have e : v = f := by
    simp only [fR, Option.some.injEq, Prod.mk.injEq, DataW.held.injEq] at hv
    exact hv.1
  rw [has_true_of_atKey hat, e] at hrun
  exact hrun
theorem look_none {w : World} {bm n : Nat} {D : DataW Value} {p : ByteArray} (h : w.ownsMap Tryd.prog 9 fR bm n D) (hp : p.size ≤ maxLen) (hat : ∀ z, D.atKey (.string p.data.toList) z = z) :
    (Instr.lookup 64 (.map (some bm)) (.string p) true).run Tryd.prog w = .ok (.tuple #[.nilFunc, .bool false]) w := by
  obtain ⟨v, ps, hrun, hv⟩ := h.look_ok law9 Tryd.underlying64 (zero71 w) (zd := .held .nilFunc) (zp := []) rfl (keyOf_string_mk Tryd.underlying9 hp)
  rw [hat] at hv
  have e : v = .nilFunc := by
    simp only [fR, Option.some.injEq, Prod.mk.injEq, DataW.held.injEq] at hv
    exact hv.1
  rw [has_false_of_atKey hat, e] at hrun
  exact hrun
theorem plainElem_bool_inv {H : Type} {P : Program} {e : TypeId} (he : P.underlying e = some .bool) {v : Value} {z : DataW H × List MemPlace} (h : plainElem P e v = some z) : ∃ b, v = .bool b ∧ z = (.lit (.bool b), []) := by
  unfold plainElem at h
  rw [he] at h
  cases v <;> simp at h
  exact ⟨_, rfl, h.symm⟩
theorem look_there {w : World} {b n : Nat} {D : DataW Unit} {p : ByteArray} {r : Bool} (h : w.ownsMap Tryd.prog 9 (plainElem Tryd.prog 4) b n D) (hp : p.size ≤ maxLen) (hat : D.atKey (.string p.data.toList) (.lit (.bool false)) = .lit (.bool r)) :
    (Instr.lookup 67 (.map (some b)) (.string p) false).run Tryd.prog w = .ok (.bool r) w := by
  obtain ⟨v, ps, hrun, hv⟩ := h.lookup law9 Tryd.underlying67 (zero4 w) (plainElem_bool Tryd.underlying4 false) (keyOf_string_mk Tryd.underlying9 hp)
  obtain ⟨c, rfl, hc⟩ := plainElem_bool_inv Tryd.underlying4 hv
  simp only [Prod.mk.injEq] at hc
  rw [hat] at hc
  have : c = r := by
    simp only [DataW.lit.injEq, Lit.bool.injEq] at hc
    exact hc.1.symm
  rw [this] at hrun
  exact hrun

/-- Words cut behind the first. -/
theorem slice_tail {w : World} {g n c : Nat} {ws : List Bs} (hn : n = ws.length) (h0 : 0 < ws.length) (hc : ws.length ≤ c) (hg : g < w.heap.size) (hcell : ∀ (j : Nat) (l : Bs), ws[j]? = some l → w.cell? ⟨g, j, none⟩ = some (Str l)) :
    Txts w (.slice (if c = 1 then some ⟨g, 0, none⟩ else some ⟨g, 1, none⟩) (n - 1) (c - 1)) ws.tail := by
  subst hn
  refine ⟨_, c - 1, by simp; rfl, by simp; omega, fun h => ?_⟩
  simp at h
  rw [if_neg (by omega)]
  refine ⟨g, 1, rfl, hg, fun j l hj => ?_⟩
  rw [Nat.add_comm]
  exact hcell (j + 1) l (by rw [← hj]; simp)

/-- The state of a round: w3 is the world in which the map of words was made; behind it lies the map of those that were there. -/
structure Inv (w3 wr : World) (bc k : Nat) (st : St) : Prop where
  os : wr.os = w3.os
  tape : wr.tape = w3.tape
  output : wr.output = w3.output
  size : w3.heap.size + 1 ≤ wr.heap.size
  block : ∀ j, j < w3.heap.size → j ≠ bc → wr.heap[j]? = w3.heap[j]?
  cell : Cell wr (w3.heap.size + 1) bc st.c
  there : wr.ownsMap Tryd.prog 9 (plainElem Tryd.prog 4) w3.heap.size k (dOf st.b0 st.b1 st.b2 st.b3 st.b4)
  len : st.c.S.length ≤ 16
theorem Words.move {w w' : World} {lo bc bm : Nat} (h : Words w lo bc bm) (hk : ∀ k, lo ≤ k → k < w.heap.size → w'.heap[k]? = w.heap[k]?) : Words w' lo bc bm := by
  obtain ⟨bx, q1, q2, p1, p2, d1, d2, s1, s2, h0, h1, h2, h3, h4, h5, h6, h7, h8, h9, hm⟩ := h
  have key {q : Nat} {x : Value} (hb : Bx w lo q x) : Bx w' lo q x := hb.of (hk q hb.1 hb.lt)
  refine ⟨bx, q1, q2, p1, p2, d1, d2, s1, s2, h0, key h1, key h2, key h3, key h4, key h5, key h6, key h7, key h8, key h9, ?_⟩
  have hlt := hm.lt
  obtain ⟨es, cl, hb, F, hs, hD⟩ := hm
  exact ⟨es, cl, (hk bm h0 hlt).trans hb, F, hs, hD⟩
theorem Inv.words {w3 wr W : World} {lo bc bm k : Nat} {st : St} (h : Inv w3 wr bc k st) (hw : Words w3 lo bc bm) (hlo : bc < lo) (hW : Below wr.heap.size wr W) : Words W lo bc bm :=
  hw.move fun j h1 h2 => (hW.block j (by have := h.size; omega)).trans (h.block j h2 (by omega))
theorem Inv.below {w0 w3 wr : World} {B bc k : Nat} {st : St} (h : Inv w3 wr bc k st) (hb : Below B w0 w3) (hB : B ≤ bc) (hb3 : bc < w3.heap.size) : Below B w0 wr :=
  ⟨h.os.trans hb.os, h.tape.trans hb.tape, h.output.trans hb.output, by have := h.size; have := hb.size; omega, fun j hj => (h.block j (by omega) (by omega)).trans (hb.block j hj)⟩
theorem map_same {w w' : World} {H : Type} {P : Program} {k : TypeId} {R : Value → Option (DataW H × List MemPlace)} {b n : Nat} {D : DataW H} (h : w.ownsMap P k R b n D) (hb : w'.heap[b]? = w.heap[b]?) : w'.ownsMap P k R b n D := by
  obtain ⟨es, cl, h1, F, hs, hD⟩ := h
  exact ⟨es, cl, hb.trans h1, F, hs, hD⟩
theorem Inv.there' {w3 wr W w2 : World} {bc k : Nat} {st : St} (h : Inv w3 wr bc k st) (hW : Below wr.heap.size wr W) (hk : Kp (w3.heap.size + 1) bc W w2) (hbc : bc < w3.heap.size) : w2.ownsMap Tryd.prog 9 (plainElem Tryd.prog 4) w3.heap.size k (dOf st.b0 st.b1 st.b2 st.b3 st.b4) :=
  map_same (map_below h.there hW) (hk.block w3.heap.size (by omega) (by omega))
/-- A round that goes on. -/
theorem Inv.step {w3 wr W w2 w5 : World} {bc k : Nat} {st st' : St} (h : Inv w3 wr bc k st) (hW : Below wr.heap.size wr W) (hk : Kp (w3.heap.size + 1) bc W w2) (hbc : bc < w3.heap.size) (hc : Cell w2 (w3.heap.size + 1) bc st'.c)
    (hm : w5.ownsMap Tryd.prog 9 (plainElem Tryd.prog 4) w3.heap.size (k + 1) (dOf st'.b0 st'.b1 st'.b2 st'.b3 st'.b4)) (hg : w2.grownBy w5 (some w3.heap.size)) (hl : st'.c.S.length ≤ 16) : Inv w3 w5 bc (k + 1) st' := by
  have s1 := h.size
  have s2 := hW.size
  have s3 := hk.size
  have s4 := hg.size
  refine ⟨hg.os.trans (hk.os.trans (hW.os.trans h.os)), hg.tape.trans (hk.tape.trans (hW.tape.trans h.tape)), hg.output.trans (hk.output.trans (hW.output.trans h.output)), by omega, fun j hj hn => ?_, ?_, hm, hl⟩
  · rw [hg.block j (by omega) (fun e => by injection e; omega), hk.block j (by omega) hn, hW.block j (by omega)]
    exact h.block j hj hn
  · have hlt := hc.lt
    obtain ⟨v, h1, h2⟩ := hc
    refine ⟨v, (hg.block bc hlt (fun e => by injection e; omega)).trans h1, World.ownsRow.kept h2 hg ?_⟩
    cases hv : v.ownBlock with
    | none => exact .inl rfl
    | some q =>
      refine .inr fun e => ?_
      have := (World.ownsRow.lt h2 q hv).1
      injection e; omega
theorem addS_len (c : Cfg) (a : Int) (h : c.S.length ≤ 16) : (addS c a).2.S.length ≤ 16 := by
  unfold addS
  split
  · exact h
  · split
    · exact h
    · simp; omega
theorem srvC_len (c : Cfg) (ws : List Bs) (h : c.S.length ≤ 16) : (srvC c ws).2.S.length ≤ 16 := by
  unfold srvC
  split
  · exact addS_len c _ h
  · exact h

/-- A store over a whole block of the call's own. -/
theorem wpList_store_res {P : Program} {ops : Array Oper} {rest : List Oper} {o : Oper} {a : Act} {w : World} {Q : Exit → Act → World → Prop} (hgd : o.guard = none) (ty : TypeId) (x y : Operand) (ho : o.op = .store ty x y)
    (g : Nat) (cells : Array Value) (hx : a.eval x = .pointer (some ⟨g, 0, none⟩)) (hy : a.eval y = .agg cells)
    (t : TypeId) (old : Array Value) (hg : w.heap[g]? = some (.cells old t (0, 0))) (hi : (P.info? ty).map (·.size) = some cells.size)
    (hold : old.size = cells.size) (h1 : cells.all (·.oneCell') = true)
    (h : ∀ W : World, W.heap[g]? = some (.cells cells t (0, 0)) → (∀ B w0, Below B w0 w → B ≤ g → Below B w0 W) → (∀ j, j ≠ g → W.heap[j]? = w.heap[j]?) → wpList P ops Q rest (a.put o.dst undef) W) : wpList P ops Q (o :: rest) a w :=
  wpList_store_row hgd ty x y ho g cells hx hy t old hg hi hold h1 (h _ (setRow_heap w g old cells t _ hg) (fun B w0 hb hB => ⟨hb.os, hb.tape, hb.output, by simpa using hb.size, fun k hk => by rw [setRow_other w g k cells (by omega)]; exact hb.block k hk⟩) (fun j hj => setRow_other w g j cells hj))
theorem results_cell3 {P : Program} {fn : Func} {p t u : Tmp} {ty : TypeId} (h : fn.results = #[.cell p ty, .tmp t, .tmp u]) (tmps : Array Value) (w : World) (g : Nat) (t' : TypeId) (cs : Array Value) (fr : Nat × Nat) (d : TypeDesc)
    (hp : tmps.getD p undef = .pointer (some ⟨g, 0, none⟩)) (hg : w.heap[g]? = some (.cells cs t' fr))
    (hu : P.underlying ty = some d) (hd : (match d with | .struct _ | .array _ _ => true | _ => false) = true) (hi : (P.info? ty).map (·.size) = some cs.size) :
    (results fn tmps).run P w = .ok (.tuple #[.agg cs, tmps.getD t undef, tmps.getD u undef]) w := by
  have hp' : tmps[p]?.getD undef = .pointer (some ⟨g, 0, none⟩) := by simpa using hp
  simp [results, h, hp', asAddr, run_loadVar_row w g t' ty cs fr d hg hu hd hi]
theorem info24 : (Tryd.prog.info? 24).map (·.size) = some 6 := by kernel_rfl
theorem one6 (A : Option Addr) (n c : Nat) (a b d e f : Int) : (#[.slice A n c, .int .i64 a, .int .i64 b, .int .i64 d, .int .i64 e, .int .i64 f] : Array Value).all (·.oneCell') = true := by simp [Value.oneCell']

def ParsePost (w : World) (t : Bs) (e : Ending) (w' : World) : Prop :=
  ∃ v, e = .returned (.tuple #[cval v (parseOf t).1, .int .i64 ((parseOf t).2.1 : Nat), .int .i64 ((parseOf t).2.2 : Nat)]) ∧ Row w' w.heap.size v (parseOf t).1.S ∧ Below w.heap.size w w'
theorem pp_of {w w' : World} {t : Bs} {v : Value} {c : Cfg} {n k : Nat} (h : parseOf t = (c, n, k)) (hr : Row w' w.heap.size v c.S) (hb : Below w.heap.size w w') : ParsePost w t (.returned (.tuple #[cval v c, .int .i64 (n : Nat), .int .i64 (k : Nat)])) w' := by
  exact ⟨v, by rw [h], by rw [h]; exact hr, hb⟩
theorem pp_none {w w' : World} {t : Bs} {n k : Nat} (h : parseOf t = (Cfg.none, n, k)) (hb : Below w.heap.size w w') : ParsePost w t (.returned (.tuple #[.agg #[.slice none 0 0, .int .i64 0, .int .i64 0, .int .i64 0, .int .i64 0, .int .i64 0], .int .i64 (n : Nat), .int .i64 (k : Nat)])) w' :=
  pp_of (v := .slice none 0 0) h (Row.nil _ _) hb
end Go.Proofs.YtlbabhddjdhalaaDoor
