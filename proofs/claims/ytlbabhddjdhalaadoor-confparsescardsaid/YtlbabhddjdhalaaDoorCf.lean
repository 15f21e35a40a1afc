/- What conf is about, in plain lists: configs, their texts, what is told. -/
import Derived.Test.YtlbabhddjdhalaaDoorRnum
namespace Go.Proofs.YtlbabhddjdhalaaDoor
open Go.RowKit Go.Proofs.Lx

structure Cfg where
  S : List Int
  q : Int
  l : Int
  m : Int
  d : Int
  s : Int
def Cfg.none : Cfg := ⟨[], 0, 0, 0, 0, 0⟩
/-- Of each server in order. -/
def srvs (seen : List Int) : List Int → Nat
  | [] => 0
  | a :: r => if a < 1 ∨ 65535 < a then 3 else if a ∈ seen then 12 else srvs (seen ++ [a]) r
def numsOk (c : Cfg) : Prop := (1 ≤ c.q ∧ c.q ≤ c.S.length) ∧ (4 ≤ c.l ∧ c.l ≤ 1024) ∧ (c.l ≤ c.m ∧ c.m ≤ 1024) ∧ (1 ≤ c.d ∧ c.d ≤ 1000 * c.l - 2000) ∧ (1 ≤ c.s ∧ c.s ≤ 500)
instance (c : Cfg) : Decidable (numsOk c) := by unfold numsOk; infer_instance
def checkOf (c : Cfg) : Nat := if c.S = [] then 13 else if 16 < c.S.length then 11 else if srvs [] c.S ≠ 0 then srvs [] c.S else if numsOk c then 0 else 3

def wServer : Bs := [115, 101, 114, 118, 101, 114]
def wQuorum : Bs := [113, 117, 111, 114, 117, 109]
def wPoll : Bs := [112, 111, 108, 108]
def wDelay : Bs := [100, 101, 108, 97, 121]
def wSlew : Bs := [115, 108, 101, 119]

/-- What words say. -/
def numsF (acc : List Int) : List Bs → List Int × Nat
  | [] => (acc, 0)
  | w :: ws => if (number w).2 = 0 then numsF (acc ++ [((number w).1 : Int)]) ws else ([], (number w).2)
def numbersOf (ws : List Bs) (k : Nat) : List Int × Nat := if ws.length = k then numsF [] ws else ([], 6)
theorem numsF_len : ∀ (ws : List Bs) (acc : List Int), (numsF acc ws).2 = 0 → (numsF acc ws).1.length = acc.length + ws.length
  | [], acc, _ => by simp [numsF]
  | w :: ws, acc, h => by
    unfold numsF at h ⊢
    split
    · rename_i h0
      rw [if_pos h0] at h
      rw [numsF_len ws _ h]; simp; omega
    · rename_i h0
      rw [if_neg h0] at h
      exact absurd h h0
theorem numbersOf_len (ws : List Bs) (k : Nat) (h : (numbersOf ws k).2 = 0) : (numbersOf ws k).1.length = k := by
  unfold numbersOf at h ⊢
  split
  · rename_i h0
    rw [if_pos h0] at h
    rw [numsF_len ws [] h]; simp [h0]
  · rename_i h0
    rw [if_neg h0] at h
    simp at h

structure St where
  c : Cfg
  b0 : Bool
  b1 : Bool
  b2 : Bool
  b3 : Bool
  b4 : Bool
def St.none : St := ⟨Cfg.none, false, false, false, false, false⟩
/-- A server behind the others. -/
def addS (c : Cfg) (a : Int) : Nat × Cfg := if a ∈ c.S then (12, c) else if c.S.length = 16 then (11, c) else (0, { c with S := c.S ++ [a] })
def doServer (st : St) (r : List Bs) : Nat × St :=
  if (numbersOf r 1).2 = 0 then (if (addS st.c ((numbersOf r 1).1.headD 0)).1 = 0 then (0, { st with c := (addS st.c ((numbersOf r 1).1.headD 0)).2, b0 := true }) else ((addS st.c ((numbersOf r 1).1.headD 0)).1, st)) else ((numbersOf r 1).2, st)
def setQ (c : Cfg) (n : List Int) : Cfg := { c with q := n.headD 0 }
def setP (c : Cfg) (n : List Int) : Cfg := { c with l := n.headD 0, m := n.tail.headD 0 }
def setD (c : Cfg) (n : List Int) : Cfg := { c with d := n.headD 0 }
def setSl (c : Cfg) (n : List Int) : Cfg := { c with s := n.headD 0 }
def doOnce (set : Cfg → List Int → Cfg) (mark : St → St) (k : Nat) (again : Bool) (st : St) (r : List Bs) : Nat × St :=
  if (numbersOf r k).2 = 0 then (if again then (12, st) else (0, mark { st with c := set st.c (numbersOf r k).1 })) else ((numbersOf r k).2, st)
/-- What a line does: the error, and what stands behind it. -/
def doW (st : St) (w : Bs) (r : List Bs) : Nat × St :=
  if w = wServer then doServer st r
  else if w = wQuorum then doOnce setQ (fun s => { s with b1 := true }) 1 st.b1 st r
  else if w = wPoll then doOnce setP (fun s => { s with b2 := true }) 2 st.b2 st r
  else if w = wDelay then doOnce setD (fun s => { s with b3 := true }) 1 st.b3 st r
  else if w = wSlew then doOnce setSl (fun s => { s with b4 := true }) 1 st.b4 st r
  else (10, st)
def doL (st : St) (ws : List Bs) : Nat × St := doW st (ws.headD []) ws.tail
/-- Behind all lines. -/
def fin (st : St) : Cfg × Nat × Nat :=
  if (st.b0 && st.b1 && st.b2 && st.b3 && st.b4) = true then (if checkOf st.c = 0 then (st.c, 0, 0) else (Cfg.none, 0, checkOf st.c)) else (Cfg.none, 0, 13)
def runL (st : St) : List Ln → Cfg × Nat × Nat
  | [] => fin st
  | (n, ws) :: r => if (doL st ws).1 = 0 then runL (doL st ws).2 r else (Cfg.none, n, (doL st ws).1)
def parseOf (t : Bs) : Cfg × Nat × Nat := if (outOf t).2.2 = 0 then runL St.none (outOf t).1 else (Cfg.none, (outOf t).2.1, (outOf t).2.2)

theorem srvs_step (S : List Int) (k : Nat) (h : k < S.length) : srvs (S.take k) (S.drop k) = if S[k] < 1 ∨ 65535 < S[k] then 3 else if S[k] ∈ S.take k then 12 else srvs (S.take (k + 1)) (S.drop (k + 1)) := by
  rw [List.drop_eq_getElem_cons h, srvs, List.take_succ_eq_append_getElem h]
theorem runL_at (st : St) (L : List Ln) (k n : Nat) (ws : List Bs) (h : L[k]? = some (n, ws)) : runL st (L.drop k) = if (doL st ws).1 = 0 then runL (doL st ws).2 (L.drop (k + 1)) else (Cfg.none, n, (doL st ws).1) := by
  obtain ⟨hk, e⟩ := List.getElem?_eq_some_iff.1 h
  rw [List.drop_eq_getElem_cons hk, e, runL]

/-! ### in memory -/
/-- The numbers xs can be read at v. -/
def Ints (w : World) (v : Value) (xs : List Int) : Prop := ∃ A c, v = .slice A xs.length c ∧ xs.length ≤ c ∧ (0 < xs.length → ∃ g o, A = some ⟨g, o, none⟩ ∧ g < w.heap.size ∧ ∀ (j : Nat) (x : Int), xs[j]? = some x → w.cell? ⟨g, o + j, none⟩ = some (.int .i64 x))
def cval (v : Value) (c : Cfg) : Value := .agg #[v, .int .i64 c.q, .int .i64 c.l, .int .i64 c.m, .int .i64 c.d, .int .i64 c.s]
theorem Ints.below {w w' : World} {B : Nat} {v : Value} {xs : List Int} (h : Ints w v xs) (hb : Below B w w') (hB : w.heap.size ≤ B) : Ints w' v xs := by
  obtain ⟨A, c, rfl, hc, hr⟩ := h
  refine ⟨A, c, rfl, hc, fun h0 => ?_⟩
  obtain ⟨g, o, rfl, hg, hcell⟩ := hr h0
  exact ⟨g, o, rfl, Nat.lt_of_lt_of_le hg hb.size, fun j x hj => (hb.cell (p := ⟨g, o + j, none⟩) (by simp; omega)).trans (hcell j x hj)⟩
theorem Ints.alloc {w : World} {v : Value} {xs : List Int} (h : Ints w v xs) (o : Obj) : Ints (w.alloc o) v xs := h.below ((Below.refl _ _).alloc (Nat.le_refl _) _) (Nat.le_refl _)
theorem Ints.nil (w : World) : Ints w (.slice none 0 0) [] := ⟨none, 0, rfl, Nat.le_refl _, fun h => by simp at h⟩
/-- A row of numbers of the call's own. -/
def Row (w : World) (base : Nat) (v : Value) (xs : List Int) : Prop := w.ownsRow base 3 1 v xs.length (xs.map (Value.int .i64))
theorem Row.ints {w : World} {base : Nat} {v : Value} {xs : List Int} (h : Row w base v xs) : Ints w v xs := by
  obtain ⟨A, c, rfl, hc⟩ := own_len h
  refine ⟨A, c, rfl, hc, fun h0 => ?_⟩
  obtain ⟨g, c', e, _, hg, _, hcell⟩ := own_cells h h0
  injection e with e1 e2 e3
  subst e1 e3
  exact ⟨g, 0, rfl, hg, fun j x hj => by rw [Nat.zero_add]; exact hcell j _ (by rw [List.getElem?_map, hj]; rfl)⟩
theorem Row.nil (w : World) (base : Nat) : Row w base (.slice none 0 0) [] := World.ownsRow_nil _ _ _ _
theorem Row.below {w w' : World} {base B : Nat} {v : Value} {xs : List Int} (h : Row w base v xs) (hb : Below B w w') (hB : w.heap.size ≤ B) : Row w' base v xs := own_below h hb hB
theorem Row.base {w : World} {base base' : Nat} {v : Value} {xs : List Int} (h : Row w base v xs) (hb : base' ≤ base) : Row w base' v xs := own_base h hb
theorem Ints.len {w : World} {v : Value} {xs : List Int} (h : Ints w v xs) : ∃ A c, v = .slice A xs.length c ∧ xs.length ≤ c := by
  obtain ⟨A, c, h1, h2, _⟩ := h; exact ⟨A, c, h1, h2⟩
theorem Ints.at_ {w : World} {A : Option Addr} {n c : Nat} {xs : List Int} (h : Ints w (.slice A n c) xs) (k : Nat) (hk : k < xs.length) : ∃ g o, A = some ⟨g, o, none⟩ ∧ g < w.heap.size ∧ w.cell? ⟨g, o + k, none⟩ = some (.int .i64 xs[k]) := by
  obtain ⟨A', c', e, hc, hr⟩ := h
  injection e with e1 e2 e3
  subst e1 e3
  obtain ⟨g, o, rfl, hg, hcell⟩ := hr (by omega)
  exact ⟨g, o, rfl, hg, hcell k _ (List.getElem?_eq_getElem hk)⟩
theorem Ints.take {w : World} {A : Option Addr} {n c : Nat} {xs : List Int} (h : Ints w (.slice A n c) xs) (k : Nat) (hk : k ≤ xs.length) : Ints w (.slice A k c) (xs.take k) := by
  obtain ⟨A', c', e, hc, hr⟩ := h
  injection e with e1 e2 e3
  subst e1 e3
  refine ⟨A, c, by simp [Nat.min_eq_left hk], by simp; omega, fun h0 => ?_⟩
  obtain ⟨g, o, rfl, hg, hcell⟩ := hr (by simp at h0; omega)
  exact ⟨g, o, rfl, hg, fun j x hj => hcell j x (by rw [List.getElem?_take] at hj; split at hj <;> simp_all)⟩
end Go.Proofs.YtlbabhddjdhalaaDoor
