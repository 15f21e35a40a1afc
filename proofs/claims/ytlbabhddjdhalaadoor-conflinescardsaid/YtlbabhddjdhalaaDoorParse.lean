/- Parse. -/
import Derived.Test.YtlbabhddjdhalaaDoorInv
import Derived.Test.YtlbabhddjdhalaaDoorJoin
namespace Go.Proofs.YtlbabhddjdhalaaDoor
open Go.RowKit Go.Proofs.Lx Go.Maps Go.WideMaps

theorem st_eta (st : St) : st = ⟨st.c, st.b0, st.b1, st.b2, st.b3, st.b4⟩ := rfl
theorem doL_of (st : St) (ws : List Bs) (l : Bs) (r : List Bs) (h : ws = l :: r) : doL st ws = doW st l r := by subst h; rfl
theorem doW_server (st : St) (r : List Bs) : doW st wServer r = if (srvC st.c r).1 = 0 then (0, { st with c := (srvC st.c r).2, b0 := true }) else ((srvC st.c r).1, st) := by
  show doServer st r = _
  unfold doServer srvC
  split
  · rfl
  · rfl
theorem doW_quorum (st : St) (r : List Bs) : doW st wQuorum r = if (onceC setQ 1 st.b1 st.c r).1 = 0 then (0, { st with c := (onceC setQ 1 st.b1 st.c r).2, b1 := true }) else ((onceC setQ 1 st.b1 st.c r).1, st) := by
  have e : doW st wQuorum r = doOnce setQ (fun s => { s with b1 := true }) 1 st.b1 st r := by
    unfold doW
    rw [if_neg (by decide), if_pos rfl]
  rw [e]
  unfold doOnce onceC
  split
  · cases st.b1 <;> rfl
  · rfl
theorem quorum_len (c : Cfg) (b : Bool) (r : List Bs) (h : c.S.length ≤ 16) : (onceC setQ 1 b c r).2.S.length ≤ 16 := by
  unfold onceC
  split
  · split
    · exact h
    · exact h
  · exact h
theorem doW_poll (st : St) (r : List Bs) : doW st wPoll r = if (onceC setP 2 st.b2 st.c r).1 = 0 then (0, { st with c := (onceC setP 2 st.b2 st.c r).2, b2 := true }) else ((onceC setP 2 st.b2 st.c r).1, st) := by
  have e : doW st wPoll r = doOnce setP (fun s => { s with b2 := true }) 2 st.b2 st r := by
    unfold doW
    rw [if_neg (by decide), if_neg (by decide), if_pos rfl]
  rw [e]
  unfold doOnce onceC
  split
  · cases st.b2 <;> rfl
  · rfl
theorem poll_len (c : Cfg) (b : Bool) (r : List Bs) (h : c.S.length ≤ 16) : (onceC setP 2 b c r).2.S.length ≤ 16 := by
  unfold onceC
  split
  · split
    · exact h
    · exact h
  · exact h
theorem doW_delay (st : St) (r : List Bs) : doW st wDelay r = if (onceC setD 1 st.b3 st.c r).1 = 0 then (0, { st with c := (onceC setD 1 st.b3 st.c r).2, b3 := true }) else ((onceC setD 1 st.b3 st.c r).1, st) := by
  have e : doW st wDelay r = doOnce setD (fun s => { s with b3 := true }) 1 st.b3 st r := by
    unfold doW
    rw [if_neg (by decide), if_neg (by decide), if_neg (by decide), if_pos rfl]
  rw [e]
  unfold doOnce onceC
  split
  · cases st.b3 <;> rfl
  · rfl
theorem delay_len (c : Cfg) (b : Bool) (r : List Bs) (h : c.S.length ≤ 16) : (onceC setD 1 b c r).2.S.length ≤ 16 := by
  unfold onceC
  split
  · split
    · exact h
    · exact h
  · exact h
theorem doW_slew (st : St) (r : List Bs) : doW st wSlew r = if (onceC setSl 1 st.b4 st.c r).1 = 0 then (0, { st with c := (onceC setSl 1 st.b4 st.c r).2, b4 := true }) else ((onceC setSl 1 st.b4 st.c r).1, st) := by
  have e : doW st wSlew r = doOnce setSl (fun s => { s with b4 := true }) 1 st.b4 st r := by
    unfold doW
    rw [if_neg (by decide), if_neg (by decide), if_neg (by decide), if_neg (by decide), if_pos rfl]
  rw [e]
  unfold doOnce onceC
  split
  · cases st.b4 <;> rfl
  · rfl
theorem slew_len (c : Cfg) (b : Bool) (r : List Bs) (h : c.S.length ≤ 16) : (onceC setSl 1 b c r).2.S.length ≤ 16 := by
  unfold onceC
  split
  · split
    · exact h
    · exact h
  · exact h
theorem doW_none (st : St) (l : Bs) (r : List Bs) (h0 : l ≠ wServer) (h1 : l ≠ wQuorum) (h2 : l ≠ wPoll) (h3 : l ≠ wDelay) (h4 : l ≠ wSlew) : doW st l r = (10, st) := by
  unfold doW
  rw [if_neg h0, if_neg h1, if_neg h2, if_neg h3, if_neg h4]
theorem slice_one {w : World} {g n c : Nat} (h0 : 0 < n) : (Instr.slice 39 (.slice (some ⟨g, 0, none⟩) n c) (some (.int .i64 1)) none none).run Tryd.prog w = .ok (.slice (if c = 1 then some ⟨g, 0, none⟩ else some ⟨g, 1, none⟩) (n - 1) (c - 1)) w := by
  have hb : (1 : Int) ≤ (n : Int) := by omega
  simp [Instr.slice, run_underlying Tryd.underlying39, Instr.sliceBounds, go_sem, hb]
theorem not3 {cs : Array Value} {fz : Nat × Nat} : ∀ c fz', Obj.cells cs 69 fz ≠ .cells c 3 fz' := fun c fz' e => by
  injection e with _ e _
  exact absurd e (by decide)
theorem le_sum : ∀ {xs : List Nat} {x : Nat}, x ∈ xs → x ≤ xs.sum
  | [], x, h => by simp at h
  | y :: ys, x, h => by
    rcases List.mem_cons.1 h with rfl | h
    · simp
    · have := le_sum h; simp; omega
theorem below_kp {B H bc : Nat} {a W b : World} (hW : Below a.heap.size a W) (hk : Kp H bc W b) (hB : B ≤ H) (hbc : B ≤ bc) (ha : B ≤ a.heap.size) : Below B a b :=
  ⟨hk.os.trans hW.os, hk.tape.trans hW.tape, hk.output.trans hW.output, Nat.le_trans hW.size hk.size, fun j hj => (hk.block j (by omega) (by omega)).trans (hW.block j (by omega))⟩
theorem row_other {w w' : World} {base : Nat} {v : Value} {xs : List Int} (h : Row w base v xs) (hk : ∀ j, base ≤ j → w'.heap[j]? = w.heap[j]?) : Row w' base v xs := by
  refine ⟨h.1, ?_⟩
  rcases h.2 with h0 | ⟨g, cap, cur, hv, hb', hg, rest⟩
  · exact .inl h0
  · exact .inr ⟨g, cap, cur, hv, hb', (hk g hb').trans hg, rest⟩
theorem six_facts {w : World} {g : Nat} {v0 v1 v2 v3 v4 v5 : Value} {t : TypeId} (h : w.heap[g]? = some (.cells #[v0, v1, v2, v3, v4, v5] t (0, 0))) : w.cell? ⟨g, 0, none⟩ = some v0 ∧ w.cell? ⟨g, 1, none⟩ = some v1 ∧ w.cell? ⟨g, 2, none⟩ = some v2 ∧ w.cell? ⟨g, 3, none⟩ = some v3 ∧ w.cell? ⟨g, 4, none⟩ = some v4 ∧ w.cell? ⟨g, 5, none⟩ = some v5 ∧ ∀ j, w.frozen? ⟨g, j, none⟩ = false := by
  refine ⟨?_, ?_, ?_, ?_, ?_, ?_, fun j => Lib.frozen_of_heap h j⟩
  all_goals (rw [Lib.cell_of_heap h]; rfl)
theorem heap_drew (w : World) : w.drew.heap = w.heap := rfl
theorem six_all {w : World} {g : Nat} {w0 W : World} {v0 v1 v2 v3 v4 v5 : Value} {t : TypeId} (h : w.heap[g]? = some (.cells #[v0, v1, v2, v3, v4, v5] t (0, 0))) (hb : Below g w0 w) (hW : ((((((w.setCell ⟨g, 0, none⟩ (.slice none 0 0)).setCell ⟨g, 1, none⟩ (.int .i64 0)).setCell ⟨g, 2, none⟩ (.int .i64 0)).setCell ⟨g, 3, none⟩ (.int .i64 0)).setCell ⟨g, 4, none⟩ (.int .i64 0)).setCell ⟨g, 5, none⟩ (.int .i64 0)).drew = W) : W.heap[g]? = some (.cells #[.slice none 0 0, .int .i64 0, .int .i64 0, .int .i64 0, .int .i64 0, .int .i64 0] t (0, 0)) ∧ Below g w0 W := by
  subst hW
  constructor
  · rw [heap_drew, heap_setCell_same _ _ _ _ _ _ (heap_setCell_same _ _ _ _ _ _ (heap_setCell_same _ _ _ _ _ _ (heap_setCell_same _ _ _ _ _ _ (heap_setCell_same _ _ _ _ _ _ (heap_setCell_same _ _ _ _ _ _ h)))))]
    rfl
  · exact (((((((hb.setCell (p := ⟨g, 0, none⟩) (Nat.le_refl _) _).setCell (p := ⟨g, 1, none⟩) (Nat.le_refl _) _).setCell (p := ⟨g, 2, none⟩) (Nat.le_refl _) _).setCell (p := ⟨g, 3, none⟩) (Nat.le_refl _) _).setCell (p := ⟨g, 4, none⟩) (Nat.le_refl _) _).setCell (p := ⟨g, 5, none⟩) (Nat.le_refl _) _)).drew
theorem word_size (s : ByteArray) (hs : s.size ≤ 100000) {L : List Ln} {n0 : Nat} (h : outOf s.data.toList = (L, n0, 0)) : ∀ (j m : Nat) (ws : List Bs), L[j]? = some (m, ws) → ∀ l ∈ ws, l.length ≤ 200000 := by
  intro j m ws hj l hl
  obtain ⟨_, hr, _⟩ := outOf_ok s.data.toList (by rw [h])
  rw [h] at hr
  have h1 := linesFrom_tot s.data.toList.length _ 0 [] L (by simp) (linesOf_sz s.data.toList) hr (m, ws) (List.mem_of_getElem? hj)
  have h2 : l.length ≤ tot ws := by
    unfold tot
    exact le_sum (List.mem_map.2 ⟨l, hl, rfl⟩)
  rw [len_eq] at h1
  simp only at h1
  omega
theorem runL_go (st : St) (L : List Ln) (k n : Nat) (l : Bs) (r : List Bs) (h : L[k]? = some (n, l :: r)) {z : St} (hd : doW st l r = (0, z)) : runL st (L.drop k) = runL z (L.drop (k + 1)) := by
  have hd' : doL st (l :: r) = (0, z) := hd
  rw [runL_at st L k n (l :: r) h, hd']
  exact if_pos rfl
theorem runL_bad (st : St) (L : List Ln) (k n : Nat) (l : Bs) (r : List Bs) (h : L[k]? = some (n, l :: r)) {e : Nat} {z : St} (hd : doW st l r = (e, z)) (he : e ≠ 0) : runL st (L.drop k) = (Cfg.none, n, e) := by
  have hd' : doL st (l :: r) = (e, z) := hd
  rw [runL_at st L k n (l :: r) h, hd']
  exact if_neg he
theorem parse_bad (t : Bs) (h : (outOf t).2.2 ≠ 0) : parseOf t = (Cfg.none, (outOf t).2.1, (outOf t).2.2) := if_neg h
theorem parse_ok (t : Bs) (h : (outOf t).2.2 = 0) : parseOf t = runL St.none (outOf t).1 := if_pos h
set_option maxRecDepth 100000 in
set_option maxHeartbeats 8000000 in
theorem parse_any (s : ByteArray) (w : World) (hs : s.size ≤ 100000) (hm : Mx w) :
    Calls Tryd.prog 17 #[.string s] w fun e w' => ParsePost w s.data.toList e w' := by
  obtain ⟨w0, hw0⟩ : ∃ w0, w0 = w.alloc (.cells #[.slice none 0 0, .int .i64 0, .int .i64 0, .int .i64 0, .int .i64 0, .int .i64 0] 24) := ⟨_, rfl⟩
  have hs0 : w0.heap.size = w.heap.size + 1 := by rw [hw0]; simp
  have HB0 : Hid (Below w.heap.size w w0) := by
    show Below _ _ _
    rw [hw0]; exact (Below.refl _ _).alloc (Nat.le_refl _) _
  have HR0 : Hid (w0.heap[w.heap.size]? = some (.cells #[.slice none 0 0, .int .i64 0, .int .i64 0, .int .i64 0, .int .i64 0, .int .i64 0] 24 (0, 0))) := by
    show _ = _
    rw [hw0]; exact heap_alloc_new _ _
  have HM := Lib.hid hm
  have KL := Lib.hid (lines_any s w0 hs (hm.below HB0.out (Nat.le_refl _)))
  clear hm
  obtain ⟨L, n0, e0, hout⟩ : ∃ L n0 e0, outOf s.data.toList = (L, n0, e0) := ⟨_, _, _, rfl⟩
  have KP : Hid (∀ e w', LinesPost 69 w0 s.data.toList e w' → ∃ v, IsLines 69 w' w0.heap.size v L ∧ e = .returned (.tuple #[v, .int .i64 (n0 : Nat), .int .i64 (e0 : Nat)]) ∧ Below w0.heap.size w0 w') := fun e w' h => by
    obtain ⟨v, h1, h2, h3⟩ := h
    rw [hout] at h1 h2
    exact ⟨v, h1, h2, h3⟩
  by_cases he : e0 = 0
  · subst he
    have HPO : Hid (parseOf s.data.toList = runL St.none L) := by
      show _ = _
      rw [parse_ok _ (by rw [hout]), hout]
    have HSZ : Hid (L.length ≤ 1000000 ∧ ∀ (j m : Nat) (ws : List Bs), L[j]? = some (m, ws) → ws.length ≤ 1000000) := by
      have := out_sz s.data.toList
      rw [hout] at this; exact this
    have HNE : Hid (∀ (j m : Nat) (ws : List Bs), L[j]? = some (m, ws) → ws ≠ []) := fun j m ws hj => by
      obtain ⟨_, hr, _⟩ := outOf_ok s.data.toList (by rw [hout])
      rw [hout] at hr
      exact res_ne _ _ hr (m, ws) (List.mem_of_getElem? hj)
    have HWL := Lib.hid (word_size s hs hout)
    clear hout
    have hmm := @run_makeMap Tryd.prog
    go_enter Tryd.func17, Tryd.ntmps17
    go_wp2_with (first
      | (rw [← hw0]; go_at_call 32; refine KL.out.mono ?_; intro e w1 h1; obtain ⟨v, hv, rfl, hb1⟩ := KP.out e w1 h1; have HV := Lib.hid hv; obtain ⟨A, cp, rfl, hcp⟩ := hv.len; have hb1s := hb1.size; clear h1 hv)
      | (go_at_call 33; refine (wordsOf_any w1.heap.size _).mono ?_; rintro e w3 ⟨bm, rfl, hW3, hb3⟩; have HW3 := Lib.hid hW3; clear hW3))
    obtain ⟨w2, hw2⟩ : ∃ w2, w2 = w1.alloc (.cells #[.slice none 0 0, .int .i64 0, .int .i64 0, .int .i64 0, .int .i64 0, .int .i64 0] 24) := ⟨_, rfl⟩
    rw [← hw2] at hb3 HW3
    have hs2 : w2.heap.size = w1.heap.size + 1 := by rw [hw2]; simp
    have hs3 := hb3.size
    have HB12 : Hid (Below w1.heap.size w1 w3) := by
      show Below _ _ _
      have : Below w1.heap.size w1 w2 := by rw [hw2]; exact (Below.refl _ _).alloc (Nat.le_refl _) _
      exact this.trans (hb3.mono (by omega))
    have HBW : Hid (Below w.heap.size w w3) := (HB0.out.trans (hb1.mono (by omega))).trans (HB12.out.mono (by omega))
    have HR3 : Hid (w3.heap[w.heap.size]? = some (.cells #[.slice none 0 0, .int .i64 0, .int .i64 0, .int .i64 0, .int .i64 0, .int .i64 0] 24 (0, 0))) := by
      show _ = _
      rw [HB12.out.block _ (by omega), hb1.block _ (by omega)]
      exact HR0.out
    have HI0 : Hid (Inv w3 (w3.alloc (.map #[] 0)) w1.heap.size 0 St.none) := by
      show Inv _ _ _ _ _
      refine ⟨rfl, rfl, rfl, by simp, fun j hj _ => heap_alloc_old _ _ hj, ⟨.slice none 0 0, ?_, Row.nil _ _⟩, World.ownsMap_made w3 Tryd.prog 9 _, by decide⟩
      rw [heap_alloc_old _ _ (by omega), hb3.block _ (by omega), hw2]
      exact heap_alloc_new _ _
    have HBC : Hid (w1.heap.size < w3.heap.size ∧ w1.heap.size < w2.heap.size ∧ w.heap.size < w1.heap.size) := ⟨by omega, by omega, by omega⟩
    obtain ⟨W3, hW3⟩ : ∃ W3, W3 = w3.alloc (.map #[] 0) := ⟨_, rfl⟩
    rw [← hW3] at HI0 ⊢
    have hL0 := HSZ.out.1
    clear hw2 hs2 hs3 hb3 hb1s hb1 hs0 hw0 KL KP hmm hW3 HB0 HR0
    go_loopw [33] (fun i wr => ∃ (k : Nat) (st : St), k ≤ L.length ∧ i = .int .i64 k ∧ Hid (Inv w3 wr w1.heap.size k st) ∧ Hid (runL St.none L = runL st (L.drop k))) (fun i _ => L.length - (intOf i).toNat)
    case atStart => exact ⟨0, St.none, Nat.zero_le _, rfl, HI0, (by simp : runL St.none L = runL St.none (L.drop 0))⟩
    case round =>
      obtain ⟨k, st, hk, rfl, HI, HX⟩ := hrel
      clear HI0
      have HBR : Hid (Below w.heap.size w wr) := HI.out.below HBW.out (by have := HBC.out; omega) HBC.out.1
      have HRR : Hid (wr.heap[w.heap.size]? = some (.cells #[.slice none 0 0, .int .i64 0, .int .i64 0, .int .i64 0, .int .i64 0, .int .i64 0] 24 (0, 0))) := (HI.out.block _ (by have := HBC.out; omega) (by have := HBC.out; omega)).trans HR3.out
      by_cases hkN : k < L.length
      · obtain ⟨⟨m, ws⟩, hm⟩ : ∃ x, L[k]? = some x := ⟨_, List.getElem?_eq_getElem hkN⟩
        have hLr := HV.out.below (HI.out.below HB12.out (Nat.le_refl _) HBC.out.1) (Nat.le_refl _)
        obtain ⟨g, c, e1, hc, hg, hcell⟩ := hLr.at_ (by omega)
        injection e1 with e1 _ e3
        subst e1 e3
        obtain ⟨a1, u, a2, a3⟩ := hcell k m ws hm
        rw [Nat.mul_comm] at a1 a2
        have hwz := HSZ.out.2 k m ws hm
        obtain ⟨l, r, rfl⟩ : ∃ l r, ws = l :: r := by
          cases ws with
          | nil => exact absurd rfl (HNE.out k m [] hm)
          | cons l r => exact ⟨l, r, rfl⟩
        obtain ⟨g2, c2, rfl, hc2, hg2, hcw⟩ := a3.at_ (by simp)
        obtain ⟨p, hp, hpl⟩ := str_mk l
        have f0 := hcw 0 l rfl
        rw [hp] at f0
        have hps : p.size ≤ maxLen := by
          have := HWL.out k m _ hm l (by simp)
          rw [← hpl, len_eq] at this
          unfold maxLen; omega
        have HPS := Lib.hid hps
        have HPL := Lib.hid hpl
        have hrz : r.length ≤ 1000000 := by simp at hwz; omega
        have HCW := Lib.hid hcw
        have HGO : Hid (∀ z, doW st l r = (0, z) → runL St.none L = runL z (L.drop (k + 1))) := fun z h => HX.out.trans (runL_go st L k m l r hm h)
        have HBD : Hid (∀ e z, doW st l r = (e, z) → e ≠ 0 → runL St.none L = (Cfg.none, m, e)) := fun e z h h0 => HX.out.trans (runL_bad st L k m l r hm h h0)
        obtain ⟨n, hn⟩ : ∃ n, n = (l :: r).length := ⟨_, rfl⟩
        rw [← hn] at a2 hc2
        have hn1 : 0 < n := by rw [hn]; simp
        obtain ⟨W1, hW1⟩ : ∃ W1, W1 = wr.alloc (.cells #[.int .i64 (m : Int), .slice (some ⟨g2, 0, none⟩) n c2] 69) := ⟨_, rfl⟩
        have HBW1 : Hid (Below wr.heap.size wr W1.drew) := by
          show Below _ _ _
          rw [hW1]; exact ((Below.refl _ _).alloc (Nat.le_refl _) _).drew
        have HLN : Hid (W1.heap[wr.heap.size]? = some (.cells #[.int .i64 (m : Int), .slice (some ⟨g2, 0, none⟩) n c2] 69 (0, 0))) := by
          show _ = _
          rw [hW1]; exact heap_alloc_new _ _
        have HTX : Hid (Txts W1.drew (.slice (if c2 = 1 then some ⟨g2, 0, none⟩ else some ⟨g2, 1, none⟩) (n - 1) (c2 - 1)) r) := by
          show Txts _ _ _
          have := slice_tail (w := W1.drew) (g := g2) (c := c2) hn (by simp) (by omega) (Nat.lt_of_lt_of_le hg2 HBW1.out.size) (fun j x hj => (HBW1.out.cell (p := ⟨g2, j, none⟩) hg2).trans (hcw j x hj))
          exact this
        have HSL : Hid (∀ u : World, (Instr.slice 39 (.slice (some ⟨g2, 0, none⟩) n c2) (some (.int .i64 1)) none none).run Tryd.prog u = .ok (.slice (if c2 = 1 then some ⟨g2, 0, none⟩ else some ⟨g2, 1, none⟩) (n - 1) (c2 - 1)) u) := fun u => slice_one hn1
        obtain ⟨A2, hA2⟩ : ∃ A2, A2 = (if c2 = 1 then some (⟨g2, 0, none⟩ : Addr) else some ⟨g2, 1, none⟩) := ⟨_, rfl⟩
        rw [← hA2] at HTX HSL
        clear hA2
        have HWD := Lib.hid (HI.out.words HW3.out HBC.out.2.1 HBW1.out)
        have HCL : Hid (Cell W1.drew (w3.heap.size + 1) w1.heap.size st.c) := HI.out.cell.below HBW1.out (Nat.le_refl _)
        have HWS : Hid (w3.heap.size + 1 ≤ W1.drew.heap.size) := Nat.le_trans HI.out.size HBW1.out.size
        have HTH : Hid (W1.drew.ownsMap Tryd.prog 9 (plainElem Tryd.prog 4) w3.heap.size k (dOf st.b0 st.b1 st.b2 st.b3 st.b4)) := map_below HI.out.there HBW1.out
        have HKY : Hid (keyOf Tryd.prog 9 (.string p) = some (.string l)) := by
          show _ = _
          rw [keyOf_string_mk Tryd.underlying9 hps, hpl]
        have hne0 : wr.heap.size ≠ w1.heap.size := by have := HI.out.size; have := HBC.out.1; omega
        have hkm : k < maxLen := by unfold maxLen; omega
        obtain ⟨bx, q1, q2, p1, p2, d1, d2, s1, s2, hbm, hbx, hq1, hq2, hp1, hp2, hd1, hd2, hs1, hs2, hwm⟩ := HWD.out
        have HWM := Lib.hid hwm
        have HBX := Lib.hid hbx.2
        have HQ := Lib.hid (And.intro hq1.2 hq2.2)
        have HP := Lib.hid (And.intro hp1.2 hp2.2)
        have HD := Lib.hid (And.intro hd1.2 hd2.2)
        have HS := Lib.hid (And.intro hs1.2 hs2.2)
        have HLT : Hid (w1.heap.size < w3.heap.size + 1) := by have := HBC.out.1; show _ < _; omega
        clear hLr hcell a3 hcw hps hpl hm hp hn hwz hbm hbx hq1 hq2 hp1 hp2 hd1 hd2 hs1 hs2 hwm HWD HNE HWL
        by_cases hw0 : l = wServer
        · subst hw0
          have hdo := doW_server st r
          have hlk : (Instr.lookup 64 (.map (some bm)) (.string p) true).run Tryd.prog W1 = .ok (.tuple #[fS bx, .bool true]) W1 := look_word (w := W1) HWM.out HPS.out (by rw [HPL.out]; exact D5_at.1)
          have hlt : (Instr.lookup 67 (.map (some w3.heap.size)) (.string p) false).run Tryd.prog W1.drew = .ok (.bool st.b0) W1.drew := look_there HTH.out HPS.out (by rw [HPL.out]; exact (dOf_at _ _ _ _ _).1)
          have KC := Lib.hid (server_any _ r st.b0 bx w1.heap.size (w3.heap.size + 1) st.c _ HTX.out hrz HBX.out HCL.out HLT.out HWS.out HI.out.len)
          have HLL := Lib.hid (srvC_len st.c r HI.out.len)
          have hsl := HSL.out
          unfold fS ptr at hlk
          obtain ⟨rr, hrr⟩ : ∃ rr, rr = srvC st.c r := ⟨_, rfl⟩
          rw [← hrr] at hdo KC HLL
          clear hrr
          obtain ⟨re, hre⟩ : ∃ re, re = rr.1 := ⟨_, rfl⟩
          have HRE := Lib.hid hre
          rw [← hre] at hdo
          clear hre
          by_cases hz : re = 0
          · rw [if_pos hz] at hdo
            have HST := Lib.hid (HGO.out _ hdo)
            have t1 : ((re : Int) != 0) = false := by simp [hz]
            clear hdo hz
            subst hW1
            go_wp2_with fail
            refine still_tail 7 (by kernel_rfl) (by kernel_rfl) ?_
            simp only [List.take_succ_cons, List.take_zero, List.drop_succ_cons, List.drop_zero]
            repeat still_step
            refine wpStill_nil ?_
            go_wp2_with (first
              | (go_at_call 48; refine KC.out.mono ?_; rintro e w4 ⟨he4, hc4, hk4⟩; rw [← HRE.out] at he4; subst he4; have HC4 := Lib.hid hc4; have HK4 := Lib.hid hk4; have HT4 := Lib.hid (HI.out.there' HBW1.out hk4 HBC.out.1); clear hc4 hk4)
              | (at_mapUpdate; refine wpList_mapUpdate_own _ rfl _ _ _ 67 rfl 9 4 law9 Tryd.underlying67 _ w3.heap.size k _ rfl HT4.out hkm _ _ _ rfl rfl HKY.out _ [] (plainElem_bool Tryd.underlying4 true) ?_; intro w5 hm5 hg5; have HM5 := Lib.hid hm5; have HG5 := Lib.hid hg5; clear hm5 hg5))
            have hin := HI.out.step (st' := { st with c := rr.2, b0 := true }) HBW1.out HK4.out HBC.out.1 HC4.out (by have := HM5.out; rw [show DataW.lit (Lit.bool true) = tt from rfl, (dOf_put _ _ _ _ _).1] at this; exact this) HG5.out HLL.out
            go_roundw
            case rel => exact ⟨k + 1, { st with c := rr.2, b0 := true }, by omega, by go_num, hin, HST.out⟩
            case measure => simp [intOf]; omega
          · rw [if_neg hz] at hdo
            have HPR := Lib.hid (HPO.out.trans (HBD.out _ _ hdo hz))
            have t1 : ((re : Int) != 0) = true := by simp; omega
            clear hdo hz
            subst hW1
            go_wp2_with fail
            refine still_tail 7 (by kernel_rfl) (by kernel_rfl) ?_
            simp only [List.take_succ_cons, List.take_zero, List.drop_succ_cons, List.drop_zero]
            repeat still_step
            refine wpStill_nil ?_
            go_wp2_with (go_at_call 48; refine KC.out.mono ?_; rintro e w4 ⟨he4, hc4, hk4⟩; rw [← HRE.out] at he4; subst he4; have HL4 := hk4.others wr.heap.size _ HLN.out (fun e => hne0 (by injection e)) not3; have lm : w4.cell? ⟨wr.heap.size, 0, none⟩ = some (.int .i64 (m : Int)) := Lib.cell_of_heap HL4 0; have HR4 := Lib.hid ((hk4.block w.heap.size (by have := HBC.out; omega) (by have := HBC.out; omega)).trans ((HBW1.out.block _ (by have := HBC.out; have := HI.out.size; omega)).trans HRR.out)); have HB4 : Hid (Below w.heap.size w w4) := HBR.out.trans (below_kp HBW1.out hk4 (by have := HBC.out; omega) (by have := HBC.out; omega) (by have := HBC.out; have := HI.out.size; omega)); clear HL4 hc4 hk4)
            obtain ⟨z0, z1, z2, z3, z4, z5, zf⟩ := six_facts HR4.out
            have y0 := zf 0
            have y1 := zf 1
            have y2 := zf 2
            have y3 := zf 3
            have y4 := zf 4
            have y5 := zf 5
            clear zf
            have hnr : wr.heap.size ≠ w.heap.size := by have := HBC.out; have := HI.out.size; omega
            go_region
            all_goals
              clear y0 y1 y2 y3 y4 y5 z0 z1 z2 z3 z4 z5
              generalize hW6 : World.drew _ = W6
              have H6 := Lib.hid (six_all HR4.out HB4.out hW6)
              clear hW6
              go_wp2
              try simp only [Exit.inBlock, Exit.then]
              refine bodyPost_ret (results_cell3 rfl _ _ w.heap.size 24 _ (0, 0) _ rfl H6.out.1 Tryd.underlying24 rfl info24) rfl ?_
              exact pp_none HPR.out H6.out.2
        by_cases hw1 : l = wQuorum
        · subst hw1
          have hdo := doW_quorum st r
          have hlk : (Instr.lookup 64 (.map (some bm)) (.string p) true).run Tryd.prog W1 = .ok (.tuple #[fO q1 q2, .bool true]) W1 := look_word (w := W1) HWM.out HPS.out (by rw [HPL.out]; exact D5_at.2.1)
          have hlt : (Instr.lookup 67 (.map (some w3.heap.size)) (.string p) false).run Tryd.prog W1.drew = .ok (.bool st.b1) W1.drew := look_there HTH.out HPS.out (by rw [HPL.out]; exact (dOf_at _ _ _ _ _).2.1)
          have KC := Lib.hid (quorum_any _ r st.b1 q1 q2 bx w1.heap.size (w3.heap.size + 1) st.c _ HTX.out hrz HQ.out.1 HQ.out.2 HBX.out HCL.out HLT.out HWS.out)
          have HLL := Lib.hid (quorum_len st.c st.b1 r HI.out.len)
          have hsl := HSL.out
          unfold fO ptr at hlk
          obtain ⟨rr, hrr⟩ : ∃ rr, rr = onceC setQ 1 st.b1 st.c r := ⟨_, rfl⟩
          rw [← hrr] at hdo KC HLL
          clear hrr
          obtain ⟨re, hre⟩ : ∃ re, re = rr.1 := ⟨_, rfl⟩
          have HRE := Lib.hid hre
          rw [← hre] at hdo
          clear hre
          by_cases hz : re = 0
          · rw [if_pos hz] at hdo
            have HST := Lib.hid (HGO.out _ hdo)
            have t1 : ((re : Int) != 0) = false := by simp [hz]
            clear hdo hz
            subst hW1
            go_wp2_with fail
            refine still_tail 7 (by kernel_rfl) (by kernel_rfl) ?_
            simp only [List.take_succ_cons, List.take_zero, List.drop_succ_cons, List.drop_zero]
            repeat still_step
            refine wpStill_nil ?_
            go_wp2_with (first
              | (go_at_call 68; refine KC.out.mono ?_; rintro e w4 ⟨he4, hc4, hk4⟩; rw [← HRE.out] at he4; subst he4; have HC4 := Lib.hid hc4; have HK4 := Lib.hid hk4; have HT4 := Lib.hid (HI.out.there' HBW1.out hk4 HBC.out.1); clear hc4 hk4)
              | (at_mapUpdate; refine wpList_mapUpdate_own _ rfl _ _ _ 67 rfl 9 4 law9 Tryd.underlying67 _ w3.heap.size k _ rfl HT4.out hkm _ _ _ rfl rfl HKY.out _ [] (plainElem_bool Tryd.underlying4 true) ?_; intro w5 hm5 hg5; have HM5 := Lib.hid hm5; have HG5 := Lib.hid hg5; clear hm5 hg5))
            have hin := HI.out.step (st' := { st with c := rr.2, b1 := true }) HBW1.out HK4.out HBC.out.1 HC4.out (by have := HM5.out; rw [show DataW.lit (Lit.bool true) = tt from rfl, (dOf_put _ _ _ _ _).2.1] at this; exact this) HG5.out HLL.out
            go_roundw
            case rel => exact ⟨k + 1, { st with c := rr.2, b1 := true }, by omega, by go_num, hin, HST.out⟩
            case measure => simp [intOf]; omega
          · rw [if_neg hz] at hdo
            have HPR := Lib.hid (HPO.out.trans (HBD.out _ _ hdo hz))
            have t1 : ((re : Int) != 0) = true := by simp; omega
            clear hdo hz
            subst hW1
            go_wp2_with fail
            refine still_tail 7 (by kernel_rfl) (by kernel_rfl) ?_
            simp only [List.take_succ_cons, List.take_zero, List.drop_succ_cons, List.drop_zero]
            repeat still_step
            refine wpStill_nil ?_
            go_wp2_with (go_at_call 68; refine KC.out.mono ?_; rintro e w4 ⟨he4, hc4, hk4⟩; rw [← HRE.out] at he4; subst he4; have HL4 := hk4.others wr.heap.size _ HLN.out (fun e => hne0 (by injection e)) not3; have lm : w4.cell? ⟨wr.heap.size, 0, none⟩ = some (.int .i64 (m : Int)) := Lib.cell_of_heap HL4 0; have HR4 := Lib.hid ((hk4.block w.heap.size (by have := HBC.out; omega) (by have := HBC.out; omega)).trans ((HBW1.out.block _ (by have := HBC.out; have := HI.out.size; omega)).trans HRR.out)); have HB4 : Hid (Below w.heap.size w w4) := HBR.out.trans (below_kp HBW1.out hk4 (by have := HBC.out; omega) (by have := HBC.out; omega) (by have := HBC.out; have := HI.out.size; omega)); clear HL4 hc4 hk4)
            obtain ⟨z0, z1, z2, z3, z4, z5, zf⟩ := six_facts HR4.out
            have y0 := zf 0
            have y1 := zf 1
            have y2 := zf 2
            have y3 := zf 3
            have y4 := zf 4
            have y5 := zf 5
            clear zf
            have hnr : wr.heap.size ≠ w.heap.size := by have := HBC.out; have := HI.out.size; omega
            go_region
            all_goals
              clear y0 y1 y2 y3 y4 y5 z0 z1 z2 z3 z4 z5
              generalize hW6 : World.drew _ = W6
              have H6 := Lib.hid (six_all HR4.out HB4.out hW6)
              clear hW6
              go_wp2
              try simp only [Exit.inBlock, Exit.then]
              refine bodyPost_ret (results_cell3 rfl _ _ w.heap.size 24 _ (0, 0) _ rfl H6.out.1 Tryd.underlying24 rfl info24) rfl ?_
              exact pp_none HPR.out H6.out.2
        by_cases hw2 : l = wPoll
        · subst hw2
          have hdo := doW_poll st r
          have hlk : (Instr.lookup 64 (.map (some bm)) (.string p) true).run Tryd.prog W1 = .ok (.tuple #[fO p1 p2, .bool true]) W1 := look_word (w := W1) HWM.out HPS.out (by rw [HPL.out]; exact D5_at.2.2.1)
          have hlt : (Instr.lookup 67 (.map (some w3.heap.size)) (.string p) false).run Tryd.prog W1.drew = .ok (.bool st.b2) W1.drew := look_there HTH.out HPS.out (by rw [HPL.out]; exact (dOf_at _ _ _ _ _).2.2.1)
          have KC := Lib.hid (poll_any _ r st.b2 p1 p2 bx w1.heap.size (w3.heap.size + 1) st.c _ HTX.out hrz HP.out.1 HP.out.2 HBX.out HCL.out HLT.out HWS.out)
          have HLL := Lib.hid (poll_len st.c st.b2 r HI.out.len)
          have hsl := HSL.out
          unfold fO ptr at hlk
          obtain ⟨rr, hrr⟩ : ∃ rr, rr = onceC setP 2 st.b2 st.c r := ⟨_, rfl⟩
          rw [← hrr] at hdo KC HLL
          clear hrr
          obtain ⟨re, hre⟩ : ∃ re, re = rr.1 := ⟨_, rfl⟩
          have HRE := Lib.hid hre
          rw [← hre] at hdo
          clear hre
          by_cases hz : re = 0
          · rw [if_pos hz] at hdo
            have HST := Lib.hid (HGO.out _ hdo)
            have t1 : ((re : Int) != 0) = false := by simp [hz]
            clear hdo hz
            subst hW1
            go_wp2_with fail
            refine still_tail 7 (by kernel_rfl) (by kernel_rfl) ?_
            simp only [List.take_succ_cons, List.take_zero, List.drop_succ_cons, List.drop_zero]
            repeat still_step
            refine wpStill_nil ?_
            go_wp2_with (first
              | (go_at_call 68; refine KC.out.mono ?_; rintro e w4 ⟨he4, hc4, hk4⟩; rw [← HRE.out] at he4; subst he4; have HC4 := Lib.hid hc4; have HK4 := Lib.hid hk4; have HT4 := Lib.hid (HI.out.there' HBW1.out hk4 HBC.out.1); clear hc4 hk4)
              | (at_mapUpdate; refine wpList_mapUpdate_own _ rfl _ _ _ 67 rfl 9 4 law9 Tryd.underlying67 _ w3.heap.size k _ rfl HT4.out hkm _ _ _ rfl rfl HKY.out _ [] (plainElem_bool Tryd.underlying4 true) ?_; intro w5 hm5 hg5; have HM5 := Lib.hid hm5; have HG5 := Lib.hid hg5; clear hm5 hg5))
            have hin := HI.out.step (st' := { st with c := rr.2, b2 := true }) HBW1.out HK4.out HBC.out.1 HC4.out (by have := HM5.out; rw [show DataW.lit (Lit.bool true) = tt from rfl, (dOf_put _ _ _ _ _).2.2.1] at this; exact this) HG5.out HLL.out
            go_roundw
            case rel => exact ⟨k + 1, { st with c := rr.2, b2 := true }, by omega, by go_num, hin, HST.out⟩
            case measure => simp [intOf]; omega
          · rw [if_neg hz] at hdo
            have HPR := Lib.hid (HPO.out.trans (HBD.out _ _ hdo hz))
            have t1 : ((re : Int) != 0) = true := by simp; omega
            clear hdo hz
            subst hW1
            go_wp2_with fail
            refine still_tail 7 (by kernel_rfl) (by kernel_rfl) ?_
            simp only [List.take_succ_cons, List.take_zero, List.drop_succ_cons, List.drop_zero]
            repeat still_step
            refine wpStill_nil ?_
            go_wp2_with (go_at_call 68; refine KC.out.mono ?_; rintro e w4 ⟨he4, hc4, hk4⟩; rw [← HRE.out] at he4; subst he4; have HL4 := hk4.others wr.heap.size _ HLN.out (fun e => hne0 (by injection e)) not3; have lm : w4.cell? ⟨wr.heap.size, 0, none⟩ = some (.int .i64 (m : Int)) := Lib.cell_of_heap HL4 0; have HR4 := Lib.hid ((hk4.block w.heap.size (by have := HBC.out; omega) (by have := HBC.out; omega)).trans ((HBW1.out.block _ (by have := HBC.out; have := HI.out.size; omega)).trans HRR.out)); have HB4 : Hid (Below w.heap.size w w4) := HBR.out.trans (below_kp HBW1.out hk4 (by have := HBC.out; omega) (by have := HBC.out; omega) (by have := HBC.out; have := HI.out.size; omega)); clear HL4 hc4 hk4)
            obtain ⟨z0, z1, z2, z3, z4, z5, zf⟩ := six_facts HR4.out
            have y0 := zf 0
            have y1 := zf 1
            have y2 := zf 2
            have y3 := zf 3
            have y4 := zf 4
            have y5 := zf 5
            clear zf
            have hnr : wr.heap.size ≠ w.heap.size := by have := HBC.out; have := HI.out.size; omega
            go_region
            all_goals
              clear y0 y1 y2 y3 y4 y5 z0 z1 z2 z3 z4 z5
              generalize hW6 : World.drew _ = W6
              have H6 := Lib.hid (six_all HR4.out HB4.out hW6)
              clear hW6
              go_wp2
              try simp only [Exit.inBlock, Exit.then]
              refine bodyPost_ret (results_cell3 rfl _ _ w.heap.size 24 _ (0, 0) _ rfl H6.out.1 Tryd.underlying24 rfl info24) rfl ?_
              exact pp_none HPR.out H6.out.2
        by_cases hw3 : l = wDelay
        · subst hw3
          have hdo := doW_delay st r
          have hlk : (Instr.lookup 64 (.map (some bm)) (.string p) true).run Tryd.prog W1 = .ok (.tuple #[fO d1 d2, .bool true]) W1 := look_word (w := W1) HWM.out HPS.out (by rw [HPL.out]; exact D5_at.2.2.2.1)
          have hlt : (Instr.lookup 67 (.map (some w3.heap.size)) (.string p) false).run Tryd.prog W1.drew = .ok (.bool st.b3) W1.drew := look_there HTH.out HPS.out (by rw [HPL.out]; exact (dOf_at _ _ _ _ _).2.2.2.1)
          have KC := Lib.hid (delay_any _ r st.b3 d1 d2 bx w1.heap.size (w3.heap.size + 1) st.c _ HTX.out hrz HD.out.1 HD.out.2 HBX.out HCL.out HLT.out HWS.out)
          have HLL := Lib.hid (delay_len st.c st.b3 r HI.out.len)
          have hsl := HSL.out
          unfold fO ptr at hlk
          obtain ⟨rr, hrr⟩ : ∃ rr, rr = onceC setD 1 st.b3 st.c r := ⟨_, rfl⟩
          rw [← hrr] at hdo KC HLL
          clear hrr
          obtain ⟨re, hre⟩ : ∃ re, re = rr.1 := ⟨_, rfl⟩
          have HRE := Lib.hid hre
          rw [← hre] at hdo
          clear hre
          by_cases hz : re = 0
          · rw [if_pos hz] at hdo
            have HST := Lib.hid (HGO.out _ hdo)
            have t1 : ((re : Int) != 0) = false := by simp [hz]
            clear hdo hz
            subst hW1
            go_wp2_with fail
            refine still_tail 7 (by kernel_rfl) (by kernel_rfl) ?_
            simp only [List.take_succ_cons, List.take_zero, List.drop_succ_cons, List.drop_zero]
            repeat still_step
            refine wpStill_nil ?_
            go_wp2_with (first
              | (go_at_call 68; refine KC.out.mono ?_; rintro e w4 ⟨he4, hc4, hk4⟩; rw [← HRE.out] at he4; subst he4; have HC4 := Lib.hid hc4; have HK4 := Lib.hid hk4; have HT4 := Lib.hid (HI.out.there' HBW1.out hk4 HBC.out.1); clear hc4 hk4)
              | (at_mapUpdate; refine wpList_mapUpdate_own _ rfl _ _ _ 67 rfl 9 4 law9 Tryd.underlying67 _ w3.heap.size k _ rfl HT4.out hkm _ _ _ rfl rfl HKY.out _ [] (plainElem_bool Tryd.underlying4 true) ?_; intro w5 hm5 hg5; have HM5 := Lib.hid hm5; have HG5 := Lib.hid hg5; clear hm5 hg5))
            have hin := HI.out.step (st' := { st with c := rr.2, b3 := true }) HBW1.out HK4.out HBC.out.1 HC4.out (by have := HM5.out; rw [show DataW.lit (Lit.bool true) = tt from rfl, (dOf_put _ _ _ _ _).2.2.2.1] at this; exact this) HG5.out HLL.out
            go_roundw
            case rel => exact ⟨k + 1, { st with c := rr.2, b3 := true }, by omega, by go_num, hin, HST.out⟩
            case measure => simp [intOf]; omega
          · rw [if_neg hz] at hdo
            have HPR := Lib.hid (HPO.out.trans (HBD.out _ _ hdo hz))
            have t1 : ((re : Int) != 0) = true := by simp; omega
            clear hdo hz
            subst hW1
            go_wp2_with fail
            refine still_tail 7 (by kernel_rfl) (by kernel_rfl) ?_
            simp only [List.take_succ_cons, List.take_zero, List.drop_succ_cons, List.drop_zero]
            repeat still_step
            refine wpStill_nil ?_
            go_wp2_with (go_at_call 68; refine KC.out.mono ?_; rintro e w4 ⟨he4, hc4, hk4⟩; rw [← HRE.out] at he4; subst he4; have HL4 := hk4.others wr.heap.size _ HLN.out (fun e => hne0 (by injection e)) not3; have lm : w4.cell? ⟨wr.heap.size, 0, none⟩ = some (.int .i64 (m : Int)) := Lib.cell_of_heap HL4 0; have HR4 := Lib.hid ((hk4.block w.heap.size (by have := HBC.out; omega) (by have := HBC.out; omega)).trans ((HBW1.out.block _ (by have := HBC.out; have := HI.out.size; omega)).trans HRR.out)); have HB4 : Hid (Below w.heap.size w w4) := HBR.out.trans (below_kp HBW1.out hk4 (by have := HBC.out; omega) (by have := HBC.out; omega) (by have := HBC.out; have := HI.out.size; omega)); clear HL4 hc4 hk4)
            obtain ⟨z0, z1, z2, z3, z4, z5, zf⟩ := six_facts HR4.out
            have y0 := zf 0
            have y1 := zf 1
            have y2 := zf 2
            have y3 := zf 3
            have y4 := zf 4
            have y5 := zf 5
            clear zf
            have hnr : wr.heap.size ≠ w.heap.size := by have := HBC.out; have := HI.out.size; omega
            go_region
            all_goals
              clear y0 y1 y2 y3 y4 y5 z0 z1 z2 z3 z4 z5
              generalize hW6 : World.drew _ = W6
              have H6 := Lib.hid (six_all HR4.out HB4.out hW6)
              clear hW6
              go_wp2
              try simp only [Exit.inBlock, Exit.then]
              refine bodyPost_ret (results_cell3 rfl _ _ w.heap.size 24 _ (0, 0) _ rfl H6.out.1 Tryd.underlying24 rfl info24) rfl ?_
              exact pp_none HPR.out H6.out.2
        by_cases hw4 : l = wSlew
        · subst hw4
          have hdo := doW_slew st r
          have hlk : (Instr.lookup 64 (.map (some bm)) (.string p) true).run Tryd.prog W1 = .ok (.tuple #[fO s1 s2, .bool true]) W1 := look_word (w := W1) HWM.out HPS.out (by rw [HPL.out]; exact D5_at.2.2.2.2)
          have hlt : (Instr.lookup 67 (.map (some w3.heap.size)) (.string p) false).run Tryd.prog W1.drew = .ok (.bool st.b4) W1.drew := look_there HTH.out HPS.out (by rw [HPL.out]; exact (dOf_at _ _ _ _ _).2.2.2.2)
          have KC := Lib.hid (slew_any _ r st.b4 s1 s2 bx w1.heap.size (w3.heap.size + 1) st.c _ HTX.out hrz HS.out.1 HS.out.2 HBX.out HCL.out HLT.out HWS.out)
          have HLL := Lib.hid (slew_len st.c st.b4 r HI.out.len)
          have hsl := HSL.out
          unfold fO ptr at hlk
          obtain ⟨rr, hrr⟩ : ∃ rr, rr = onceC setSl 1 st.b4 st.c r := ⟨_, rfl⟩
          rw [← hrr] at hdo KC HLL
          clear hrr
          obtain ⟨re, hre⟩ : ∃ re, re = rr.1 := ⟨_, rfl⟩
          have HRE := Lib.hid hre
          rw [← hre] at hdo
          clear hre
          by_cases hz : re = 0
          · rw [if_pos hz] at hdo
            have HST := Lib.hid (HGO.out _ hdo)
            have t1 : ((re : Int) != 0) = false := by simp [hz]
            clear hdo hz
            subst hW1
            go_wp2_with fail
            refine still_tail 7 (by kernel_rfl) (by kernel_rfl) ?_
            simp only [List.take_succ_cons, List.take_zero, List.drop_succ_cons, List.drop_zero]
            repeat still_step
            refine wpStill_nil ?_
            go_wp2_with (first
              | (go_at_call 68; refine KC.out.mono ?_; rintro e w4 ⟨he4, hc4, hk4⟩; rw [← HRE.out] at he4; subst he4; have HC4 := Lib.hid hc4; have HK4 := Lib.hid hk4; have HT4 := Lib.hid (HI.out.there' HBW1.out hk4 HBC.out.1); clear hc4 hk4)
              | (at_mapUpdate; refine wpList_mapUpdate_own _ rfl _ _ _ 67 rfl 9 4 law9 Tryd.underlying67 _ w3.heap.size k _ rfl HT4.out hkm _ _ _ rfl rfl HKY.out _ [] (plainElem_bool Tryd.underlying4 true) ?_; intro w5 hm5 hg5; have HM5 := Lib.hid hm5; have HG5 := Lib.hid hg5; clear hm5 hg5))
            have hin := HI.out.step (st' := { st with c := rr.2, b4 := true }) HBW1.out HK4.out HBC.out.1 HC4.out (by have := HM5.out; rw [show DataW.lit (Lit.bool true) = tt from rfl, (dOf_put _ _ _ _ _).2.2.2.2] at this; exact this) HG5.out HLL.out
            go_roundw
            case rel => exact ⟨k + 1, { st with c := rr.2, b4 := true }, by omega, by go_num, hin, HST.out⟩
            case measure => simp [intOf]; omega
          · rw [if_neg hz] at hdo
            have HPR := Lib.hid (HPO.out.trans (HBD.out _ _ hdo hz))
            have t1 : ((re : Int) != 0) = true := by simp; omega
            clear hdo hz
            subst hW1
            go_wp2_with fail
            refine still_tail 7 (by kernel_rfl) (by kernel_rfl) ?_
            simp only [List.take_succ_cons, List.take_zero, List.drop_succ_cons, List.drop_zero]
            repeat still_step
            refine wpStill_nil ?_
            go_wp2_with (go_at_call 68; refine KC.out.mono ?_; rintro e w4 ⟨he4, hc4, hk4⟩; rw [← HRE.out] at he4; subst he4; have HL4 := hk4.others wr.heap.size _ HLN.out (fun e => hne0 (by injection e)) not3; have lm : w4.cell? ⟨wr.heap.size, 0, none⟩ = some (.int .i64 (m : Int)) := Lib.cell_of_heap HL4 0; have HR4 := Lib.hid ((hk4.block w.heap.size (by have := HBC.out; omega) (by have := HBC.out; omega)).trans ((HBW1.out.block _ (by have := HBC.out; have := HI.out.size; omega)).trans HRR.out)); have HB4 : Hid (Below w.heap.size w w4) := HBR.out.trans (below_kp HBW1.out hk4 (by have := HBC.out; omega) (by have := HBC.out; omega) (by have := HBC.out; have := HI.out.size; omega)); clear HL4 hc4 hk4)
            obtain ⟨z0, z1, z2, z3, z4, z5, zf⟩ := six_facts HR4.out
            have y0 := zf 0
            have y1 := zf 1
            have y2 := zf 2
            have y3 := zf 3
            have y4 := zf 4
            have y5 := zf 5
            clear zf
            have hnr : wr.heap.size ≠ w.heap.size := by have := HBC.out; have := HI.out.size; omega
            go_region
            all_goals
              clear y0 y1 y2 y3 y4 y5 z0 z1 z2 z3 z4 z5
              generalize hW6 : World.drew _ = W6
              have H6 := Lib.hid (six_all HR4.out HB4.out hW6)
              clear hW6
              go_wp2
              try simp only [Exit.inBlock, Exit.then]
              refine bodyPost_ret (results_cell3 rfl _ _ w.heap.size 24 _ (0, 0) _ rfl H6.out.1 Tryd.underlying24 rfl info24) rfl ?_
              exact pp_none HPR.out H6.out.2
        · have HPR := Lib.hid (HPO.out.trans (HBD.out _ _ (doW_none st l r hw0 hw1 hw2 hw3 hw4) (by decide)))
          have hlk : (Instr.lookup 64 (.map (some bm)) (.string p) true).run Tryd.prog W1 = .ok (.tuple #[.nilFunc, .bool false]) W1 := look_none (w := W1) HWM.out HPS.out (by rw [HPL.out]; exact D5_none l hw0 hw1 hw2 hw3 hw4)
          have HRW : Hid (W1.heap[w.heap.size]? = some (.cells #[.slice none 0 0, .int .i64 0, .int .i64 0, .int .i64 0, .int .i64 0, .int .i64 0] 24 (0, 0))) := (HBW1.out.block _ (by have := HBC.out; have := HI.out.size; omega)).trans HRR.out
          have HB4 : Hid (Below w.heap.size w W1) := HBR.out.trans (Below.mono (w' := W1) ⟨HBW1.out.os, HBW1.out.tape, HBW1.out.output, HBW1.out.size, HBW1.out.block⟩ (show w.heap.size ≤ wr.heap.size by have := HBC.out; have := HI.out.size; omega))
          clear hw0 hw1 hw2 hw3 hw4
          have lm : W1.cell? ⟨wr.heap.size, 0, none⟩ = some (.int .i64 (m : Int)) := Lib.cell_of_heap HLN.out 0
          rw [hW1] at hlk
          go_wp2_with fail
          rw [← hW1]
          clear hW1 hlk
          obtain ⟨z0, z1, z2, z3, z4, z5, zf⟩ := six_facts HRW.out
          have y0 := zf 0
          have y1 := zf 1
          have y2 := zf 2
          have y3 := zf 3
          have y4 := zf 4
          have y5 := zf 5
          clear zf
          have hnr : wr.heap.size ≠ w.heap.size := by have := HBC.out; have := HI.out.size; omega
          go_region
          all_goals
            clear y0 y1 y2 y3 y4 y5 z0 z1 z2 z3 z4 z5
            generalize hW6 : World.drew _ = W6
            have H6 := Lib.hid (six_all HRW.out HB4.out hW6)
            clear hW6
            go_wp2
            try simp only [Exit.inBlock, Exit.then]
            refine bodyPost_ret (results_cell3 rfl _ _ w.heap.size 24 _ (0, 0) _ rfl H6.out.1 Tryd.underlying24 rfl info24) rfl ?_
            exact pp_none HPR.out H6.out.2
      · have hfin := HX.out
        rw [List.drop_eq_nil_of_le (by omega), runL] at hfin
        have HF := Lib.hid (HPO.out.trans hfin)
        have hl1 : ∀ ty, (Builtin.len_ #[67] ty #[.map (some w3.heap.size)]).run Tryd.prog wr = .ok (.int .i64 ((Maps.size (dOf st.b0 st.b1 st.b2 st.b3 st.b4) : Nat) : Int)) wr := fun ty => HI.out.there.len Tryd.underlying67 ty
        obtain ⟨bx, q1, q2, p1, p2, d1, d2, s1, s2, hbm, hbx, hq1, hq2, hp1, hp2, hd1, hd2, hs1, hs2, hwm⟩ := HI.out.words HW3.out HBC.out.2.1 (Below.refl _ _)
        have hl2 : ∀ ty, (Builtin.len_ #[64] ty #[.map (some bm)]).run Tryd.prog wr = .ok (.int .i64 5) wr := fun ty => hwm.len Tryd.underlying64 ty
        have hlk := dOf_lack st.b0 st.b1 st.b2 st.b3 st.b4
        obtain ⟨sz, hsz⟩ : ∃ sz, sz = Maps.size (dOf st.b0 st.b1 st.b2 st.b3 st.b4) := ⟨_, rfl⟩
        rw [← hsz] at hl1 hlk
        clear hfin HX hsz hbm hbx hq1 hq2 hp1 hp2 hd1 hd2 hs1 hs2 hwm
        cases hall : (st.b0 && st.b1 && st.b2 && st.b3 && st.b4) with
        | false =>
          have HPR : Hid (parseOf s.data.toList = (Cfg.none, 0, 13)) := by
            show _ = _
            rw [HF.out]; unfold fin; rw [hall]; rfl
          have t1 : decide ((sz : Int) < 5) = true := by rw [hlk, hall]; rfl
          clear hlk hall
          go_wp2_with (refine wpList_store_res rfl 24 (.tmp 2) (.tmp 74) rfl w.heap.size _ rfl rfl 24 _ HRR.out info24 rfl (one6 _ _ _ _ _ _ _ _) ?_; intro W6 hW6 hb6 _; have HW6 := Lib.hid hW6; have HB6 := Lib.hid (hb6 _ _ HBR.out (Nat.le_refl _)); clear hW6 hb6)
          try simp only [Exit.inBlock, Exit.then]
          refine bodyPost_ret (results_cell3 rfl _ _ w.heap.size 24 _ (0, 0) _ rfl HW6.out Tryd.underlying24 rfl info24) rfl ?_
          exact pp_none HPR.out HB6.out
        | true =>
          have t1 : decide ((sz : Int) < 5) = false := by rw [hlk, hall]; rfl
          obtain ⟨A', cp', hcp', hb', hrow', c0, c1, c2, c3, c4, c5, _⟩ := HI.out.cell.facts
          have HROW := Lib.hid hrow'
          have KC := Lib.hid (check_any _ st.c wr hrow'.ints (by have := HI.out.len; omega))
          unfold cval at KC
          have hbcr : w1.heap.size < wr.heap.size := HI.out.cell.lt
          obtain ⟨x, hx⟩ : ∃ x, x = checkOf st.c := ⟨_, rfl⟩
          rw [← hx] at KC
          obtain ⟨n2, hn2⟩ : ∃ n2, n2 = st.c.S.length := ⟨_, rfl⟩
          rw [← hn2] at KC c0 hcp' HROW
          have HBS := Lib.hid (show w.heap.size < wr.heap.size by have := HBC.out; omega)
          have HB00 : Hid (w.heap.size ≠ w1.heap.size) := by have := HBC.out; show _ ≠ _; omega
          clear hlk hb' hrow' hn2
          by_cases hz : x = 0
          · have HPR : Hid (parseOf s.data.toList = (st.c, 0, 0)) := by
              show _ = _
              rw [HF.out]; unfold fin; rw [if_pos hall, ← hx, if_pos hz]
            subst hz
            clear hx hall
            go_wp2_with (first
              | (go_at_call 13; refine KC.out.mono ?_; rintro e w4 ⟨rfl, hb4⟩; have e0 := (hb4.cell (p := ⟨w1.heap.size, 0, none⟩) hbcr).trans c0; have e1 := (hb4.cell (p := ⟨w1.heap.size, 1, none⟩) hbcr).trans c1; have e2 := (hb4.cell (p := ⟨w1.heap.size, 2, none⟩) hbcr).trans c2; have e3 := (hb4.cell (p := ⟨w1.heap.size, 3, none⟩) hbcr).trans c3; have e4 := (hb4.cell (p := ⟨w1.heap.size, 4, none⟩) hbcr).trans c4; have e5 := (hb4.cell (p := ⟨w1.heap.size, 5, none⟩) hbcr).trans c5; have HR4 := Lib.hid ((hb4.block w.heap.size HBS.out).trans HRR.out); have HB4 := Lib.hid (HBR.out.trans (hb4.mono (Nat.le_of_lt HBS.out))); have HRW4 := Lib.hid (HROW.out.below hb4 (Nat.le_refl _)); clear hb4)
              | (refine wpList_store_res rfl 24 (.tmp 2) (.tmp 81) rfl w.heap.size _ rfl rfl 24 _ HR4.out info24 rfl (one6 _ _ _ _ _ _ _ _) ?_; intro W6 hW6 hb6 ho6; have HW6 := Lib.hid hW6; have HB6 := Lib.hid (hb6 _ _ HB4.out (Nat.le_refl _)); have HO6 := Lib.hid ho6; clear hW6 hb6 ho6))
            try simp only [Exit.inBlock, Exit.then]
            refine bodyPost_ret (results_cell3 rfl _ _ w.heap.size 24 _ (0, 0) _ rfl HW6.out Tryd.underlying24 rfl info24) rfl ?_
            have hr6 : Row W6 w.heap.size (.slice A' n2 cp') st.c.S := by
              refine Row.base (row_other HRW4.out (fun j hj => HO6.out j (by have := HBC.out; omega))) (by have := HBC.out; omega)
            exact pp_of HPR.out hr6 HB6.out
          · have HPR : Hid (parseOf s.data.toList = (Cfg.none, 0, x)) := by
              show _ = _
              rw [HF.out]; unfold fin; rw [if_pos hall, ← hx, if_neg hz]
            have t2 : ((x : Int) != 0) = true := by simp; omega
            clear hx hall hz
            go_wp2_with (first
              | (go_at_call 13; refine KC.out.mono ?_; rintro e w4 ⟨rfl, hb4⟩; have HR4 := Lib.hid ((hb4.block w.heap.size HBS.out).trans HRR.out); have HB4 := Lib.hid (HBR.out.trans (hb4.mono (Nat.le_of_lt HBS.out))); clear hb4)
              | (refine wpList_store_res rfl 24 (.tmp 2) (.tmp 79) rfl w.heap.size _ rfl rfl 24 _ HR4.out info24 rfl (one6 _ _ _ _ _ _ _ _) ?_; intro W6 hW6 hb6 _; have HW6 := Lib.hid hW6; have HB6 := Lib.hid (hb6 _ _ HB4.out (Nat.le_refl _)); clear hW6 hb6))
            try simp only [Exit.inBlock, Exit.then]
            refine bodyPost_ret (results_cell3 rfl _ _ w.heap.size 24 _ (0, 0) _ rfl HW6.out Tryd.underlying24 rfl info24) rfl ?_
            exact pp_none HPR.out HB6.out
  · have HPR : Hid (parseOf s.data.toList = (Cfg.none, n0, e0)) := by
      show _ = _
      rw [parse_bad _ (by rw [hout]; exact he), hout]
    have t1 : ((e0 : Int) != 0) = true := by simp; omega
    have hlt0 : w.heap.size < w0.heap.size := by omega
    clear hout he
    go_enter Tryd.func17, Tryd.ntmps17
    go_wp2_with (first
      | (rw [← hw0]; go_at_call 32; refine KL.out.mono ?_; intro e w1 h1; obtain ⟨v, hv, rfl, hb1⟩ := KP.out e w1 h1; obtain ⟨A, cp, rfl, hcp⟩ := hv.len; have HR4 := Lib.hid ((hb1.block w.heap.size hlt0).trans HR0.out); have HB4 := Lib.hid (HB0.out.trans (hb1.mono (Nat.le_of_lt hlt0))); clear h1 hv)
      | (refine wpList_store_res rfl 24 (.tmp 2) (.tmp 26) rfl w.heap.size _ rfl rfl 24 _ HR4.out info24 rfl (one6 _ _ _ _ _ _ _ _) ?_; intro W6 hW6 hb6 _; have HW6 := Lib.hid hW6; have HB6 := Lib.hid (hb6 _ _ HB4.out (Nat.le_refl _)); clear hW6 hb6))
    try simp only [Exit.inBlock, Exit.then]
    refine bodyPost_ret (results_cell3 rfl _ _ w.heap.size 24 _ (0, 0) _ rfl HW6.out Tryd.underlying24 rfl info24) rfl ?_
    exact pp_none HPR.out HB6.out
end Go.Proofs.YtlbabhddjdhalaaDoor
