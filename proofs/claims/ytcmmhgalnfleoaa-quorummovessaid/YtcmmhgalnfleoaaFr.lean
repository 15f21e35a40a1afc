/- A store of samples in memory; its calls but Best. -/
import Derived.Test.YtcmmhgalnfleoaaRsmp
import Derived.Test.YtcmmhgalnfleoaaMd
import Derived.Test.YtcmmhgalnfleoaaBox
namespace Go.Proofs.Ytcmmhgalnfleoaa
open Go.RowKit

def Sm.cells (p : Sm) : List Value := [.int .i64 p.o, .int .i64 p.d, .int .i64 p.t, .int .i64 p.s]
/-- The cells of samples, one behind another. -/
def flat : List Sm → List Value
  | [] => []
  | p :: l => p.cells ++ flat l
theorem flat_append : ∀ a b : List Sm, flat (a ++ b) = flat a ++ flat b
  | [], b => rfl
  | p :: a, b => by rw [List.cons_append, flat, flat, flat_append a b, List.append_assoc]
theorem length_flat : ∀ l : List Sm, (flat l).length = l.length * 4
  | [] => rfl
  | p :: l => by rw [flat, List.length_append, length_flat l, List.length_cons, Sm.cells]; simp; omega
theorem drop_flat : ∀ l : List Sm, (flat l).drop 4 = flat (l.drop 1)
  | [] => rfl
  | _ :: _ => rfl
theorem flat_get : ∀ (l : List Sm) (k j : Nat) (p : Sm), l[k]? = some p → j < 4 → (flat l)[k * 4 + j]? = p.cells[j]?
  | [], k, j, p, h, _ => by simp at h
  | q :: l, 0, j, p, h, hj => by
    simp at h
    subst h
    rw [flat, List.getElem?_append_left (by simp [Sm.cells]; omega)]
    simp
  | q :: l, k + 1, j, p, h, hj => by
    simp at h
    rw [flat, List.getElem?_append_right (by simp [Sm.cells]; omega), show (k + 1) * 4 + j - q.cells.length = k * 4 + j by simp [Sm.cells]; omega]
    exact flat_get l k j p h hj
theorem pushed_flat (l : List Sm) (p : Sm) : pushed 8 l.length 4 (flat l) p.cells = flat (push8 l p) := by
  unfold pushed push8
  rw [flat_append]
  split
  · rw [drop_flat]; simp [flat]
  · simp [flat]
theorem length_push (l : List Sm) (p : Sm) (h : l.length ≤ 8) : (push8 l p).length = min (l.length + 1) 8 := by
  unfold push8
  split
  · simp; omega
  · simp; omega

/-- A store in block sb that keeps the samples l; c were added. -/
structure Keeps (w : World) (base sb rb c : Nat) (v : Value) (l : List Sm) : Prop where
  blk : w.heap[sb]? = some (.cells #[.pointer (some ⟨rb, 0, none⟩)] 61 (0, 0))
  ring : Rg_smp w base rb 8 c l.length v (flat l)
  own : base ≤ sb
def St (w : World) (base sb c : Nat) (l : List Sm) : Prop := ∃ rb v, Keeps w base sb rb c v l
section
variable {w w' : World} {base sb rb c : Nat} {v : Value} {l : List Sm}
theorem Keeps.below {B : Nat} (h : Keeps w base sb rb c v l) (hb : Below B w w') (hB : w.heap.size ≤ B) : Keeps w' base sb rb c v l :=
  ⟨(hb.block sb (by have := heap_lt h.blk; omega)).trans h.blk, h.ring.below hb hB, h.own⟩
theorem St.below (h : St w base sb c l) (hb : Below w.heap.size w w') : St w' base sb c l := by
  obtain ⟨rb, v, h⟩ := h
  exact ⟨rb, v, h.below hb (Nat.le_refl _)⟩
theorem St.le (h : St w base sb c l) : l.length ≤ 8 := by obtain ⟨rb, v, h⟩ := h; exact h.ring.le
theorem St.lt (h : St w base sb c l) : sb < w.heap.size := by obtain ⟨rb, v, h⟩ := h; exact heap_lt h.blk
theorem St.base_le (h : St w base sb c l) : base ≤ w.heap.size := by have := h.lt; obtain ⟨rb, v, h⟩ := h; have := h.own; omega
theorem Keeps.cell (h : Keeps w base sb rb c v l) : w.cell? ⟨sb, 0, none⟩ = some (.pointer (some ⟨rb, 0, none⟩)) := by rw [cell_of_row _ _ _ _ _ _ h.blk]; rfl
theorem Keeps.ne (h : Keeps w base sb rb c v l) : sb ≠ rb := fun e => by
  have h1 := h.blk
  rw [e, h.ring.blk] at h1
  injection h1 with h1
  injection h1 with _ h1 _
  exact absurd h1 (by decide)
theorem Keeps.nv (h : Keeps w base sb rb c v l) : v.ownBlock ≠ some sb := fun e => by
  obtain ⟨_, _, cur, hg⟩ := own_lt h.ring.row e
  rw [h.blk] at hg
  injection hg with hg
  injection hg with _ hg _
  exact absurd hg (by decide)
theorem Keeps.added {p : Sm} {v' : Value} (h : Keeps w base sb rb c v l) (a : Added_smp w w' base rb 8 c l.length v (flat l) p.cells v') : Keeps w' base sb rb (c + 1) v' (push8 l p) ∧ Below base w w' := by
  have hr := a.ring
  rw [pushed_flat, ← length_push l p h.ring.le] at hr
  refine ⟨⟨?_, hr, h.own⟩, a.two.below h.ring.base_le h.ring.own fun _ hp => (own_lt h.ring.row hp).1⟩
  exact (a.two.block sb (heap_lt h.blk) h.ne (fun e => h.nv e.symm)).trans h.blk
theorem Keeps.spare {p : Sm} {v' : Value} {j : Nat} {cs : Array Value} {t : TypeId} (h : Keeps w base sb rb c v l) (a : Added_smp w w' base rb 8 c l.length v (flat l) p.cells v') (hj : w.heap[j]? = some (.cells cs t (0, 0))) (h1 : t ≠ 68) (h2 : t ≠ 31) : w'.heap[j]? = some (.cells cs t (0, 0)) := by
  refine (a.two.block j (heap_lt hj) (fun e => ?_) (fun e => ?_)).trans hj
  · subst e
    rw [h.ring.blk] at hj
    injection hj with hj
    injection hj with _ hj _
    exact h1 hj.symm
  · obtain ⟨_, _, cur, hg⟩ := own_lt h.ring.row e.symm
    rw [hg] at hj
    injection hj with hj
    injection hj with _ hj _
    exact h2 hj.symm
end

theorem snew_any (w : World) : Calls Try.prog 13 #[] w fun e w' => e = .returned (.pointer (some ⟨w.heap.size + 1, 0, none⟩)) ∧ St w' w.heap.size (w.heap.size + 1) 0 [] ∧ Below w.heap.size w w' ∧ w'.heap.size = w.heap.size + 2 := by
  have K : Hid (∀ w : World, Calls Try.prog 21 #[.int .i64 8] w fun e w' => e = .returned (.tuple #[.pointer (some ⟨w.heap.size, 0, none⟩), .int .i64 0]) ∧ Rg_smp w' w.heap.size w.heap.size 8 0 0 (.slice none 0 0) [] ∧ Below w.heap.size w w' ∧ w'.heap.size = w.heap.size + 1) := by
    refine Lib.hid fun w => ?_
    go_enter Try.func21, Try.ntmps21
    go_wp2
    go_ret2
    exact ⟨rfl, ⟨heap_alloc_new w _, World.ownsRow_nil _ _ _ _, by simp, Nat.le_refl _, Nat.zero_le _, by decide⟩, (Below.refl _ _).alloc (Nat.le_refl _) _, by simp⟩
  go_enter Try.func13, Try.ntmps13
  go_wp2_with fail
  refine (K.out _).mono ?_
  rintro e w1 ⟨rfl, hr, hb, hs⟩
  have H := Lib.hid (And.intro hr hb)
  clear hr hb K
  go_wp2
  go_ret
  have hb2 : Below w1.heap.size w1 (w1.alloc (.cells #[.pointer (some ⟨w.heap.size, 0, none⟩)] 61)) := (Below.refl _ _).alloc (Nat.le_refl _) _
  refine ⟨rfl, ⟨w.heap.size, .slice none 0 0, ?_, H.out.1.below hb2 (Nat.le_refl _), by omega⟩, bel_trans H.out.2 hb2, by simp [hs]⟩
  rw [← hs]
  exact heap_alloc_new w1 _

set_option maxRecDepth 100000 in
theorem sadd_more {w : World} {base sb c : Nat} {l : List Sm} (o d t s : Int) (h : St w base sb c l) (hc : c ≤ 1000000000) :
    Calls Try.prog 14 #[.pointer (some ⟨sb, 0, none⟩), .agg #[.int .i64 o, .int .i64 d, .int .i64 t, .int .i64 s]] w fun e w' => e = .returned (.int .i64 0) ∧ St w' base sb (c + 1) (push8 l ⟨o, d, t, s⟩) ∧ Below base w w' ∧
      ∀ (j : Nat) (cs : Array Value) (ty : TypeId), w.heap[j]? = some (.cells cs ty (0, 0)) → ty ≠ 68 → ty ≠ 31 → w'.heap[j]? = some (.cells cs ty (0, 0)) := by
  obtain ⟨rb, v, h⟩ := h
  obtain ⟨W, hW⟩ : ∃ W, W = w.alloc (.cells #[.int .i64 o, .int .i64 d, .int .i64 t, .int .i64 s] 31) := ⟨_, rfl⟩
  have hbW : Below w.heap.size w W := by rw [hW]; exact (Below.refl _ _).alloc (Nat.le_refl _) _
  have h' := h.below hbW (Nat.le_refl _)
  have hbase : base ≤ w.heap.size := h.ring.base_le
  have gB : W.heap[w.heap.size]? = some (.cells #[.int .i64 o, .int .i64 d, .int .i64 t, .int .i64 s] 31 (0, 0)) := by rw [hW]; exact heap_alloc_new w _
  have x0 : W.cell? ⟨w.heap.size, 0, none⟩ = some (.int .i64 o) := by rw [cell_of_row _ _ _ _ _ _ gB]; rfl
  have x1 : W.cell? ⟨w.heap.size, 1, none⟩ = some (.int .i64 d) := by rw [cell_of_row _ _ _ _ _ _ gB]; rfl
  have x2 : W.cell? ⟨w.heap.size, 2, none⟩ = some (.int .i64 t) := by rw [cell_of_row _ _ _ _ _ _ gB]; rfl
  have x3 : W.cell? ⟨w.heap.size, 3, none⟩ = some (.int .i64 s) := by rw [cell_of_row _ _ _ _ _ _ gB]; rfl
  have f0 := h'.cell
  have H := Lib.hid (And.intro h' hbW)
  clear h h' hbW gB
  go_enter Try.func14, Try.ntmps14
  go_wp2_with fail
  rw [← hW]
  have HW := Lib.hid hW
  clear hW
  go_still_tail 5, (by kernel_rfl)
  obtain ⟨W1, hW1⟩ : ∃ W1, W1 = World.mk W.heap W.tape (W.drawn + 1) W.os W.output := ⟨_, rfl⟩
  rw [← hW1]
  have hb1 : Below W.heap.size W W1 := by rw [hW1]; exact ⟨rfl, rfl, rfl, Nat.le_refl _, fun _ _ => rfl⟩
  have H1 := Lib.hid (H.out.1.below hb1 (Nat.le_refl _))
  have HB := Lib.hid (bel_trans H.out.2 hb1)
  clear hW1 hb1
  go_wp2_with fail
  refine (add_smp o d t s H1.out.ring (by omega) (by omega) hc).mono ?_
  rintro e w2 ⟨rfl, v', a⟩
  have H2 := Lib.hid (And.intro (H1.out.added (p := ⟨o, d, t, s⟩) a) a)
  clear a
  go_wp2
  go_ret
  exact ⟨rfl, ⟨rb, v', H2.out.1.1⟩, (HB.out.mono hbase).trans H2.out.1.2, fun j cs ty hj h1 h2 => H1.out.spare (p := ⟨o, d, t, s⟩) H2.out.2 ((HB.out.block j (heap_lt hj)).trans hj) h1 h2⟩
theorem sadd_any {w : World} {base sb c : Nat} {l : List Sm} (o d t s : Int) (h : St w base sb c l) (hc : c ≤ 1000000000) :
    Calls Try.prog 14 #[.pointer (some ⟨sb, 0, none⟩), .agg #[.int .i64 o, .int .i64 d, .int .i64 t, .int .i64 s]] w fun e w' => e = .returned (.int .i64 0) ∧ St w' base sb (c + 1) (push8 l ⟨o, d, t, s⟩) ∧ Below base w w' := by
  refine (sadd_more o d t s h hc).mono ?_
  rintro e w' ⟨h1, h2, h3, _⟩
  exact ⟨h1, h2, h3⟩
theorem sadd_nil (o d t s : Int) (w : World) : Calls Try.prog 14 #[.pointer none, .agg #[.int .i64 o, .int .i64 d, .int .i64 t, .int .i64 s]] w fun e w' => e = .returned (.int .i64 1) ∧ Below w.heap.size w w' := by
  go_enter Try.func14, Try.ntmps14
  go_wp2
  go_ret
  exact ⟨rfl, (Below.refl _ _).alloc (Nat.le_refl _) _⟩

/-- A slice of samples that lie somewhere. -/
def Sms (w : World) (A : Option Addr) (l : List Sm) : Prop := ∀ (k : Nat) (p : Sm), l[k]? = some p → ∃ g o, A = some ⟨g, o, none⟩ ∧ g < w.heap.size ∧
  w.cell? ⟨g, o + k * 4, none⟩ = some (.int .i64 p.o) ∧ w.cell? ⟨g, o + k * 4 + 1, none⟩ = some (.int .i64 p.d) ∧ w.cell? ⟨g, o + k * 4 + 2, none⟩ = some (.int .i64 p.t) ∧ w.cell? ⟨g, o + k * 4 + 3, none⟩ = some (.int .i64 p.s)
theorem Sms.below {B : Nat} {w w' : World} {A : Option Addr} {l : List Sm} (h : Sms w A l) (hb : Below B w w') (hB : ∀ g o, A = some ⟨g, o, none⟩ → g < B) : Sms w' A l := fun k p hp => by
  obtain ⟨g, o, rfl, hg, h0, h1, h2, h3⟩ := h k p hp
  have hgB := hB g o rfl
  exact ⟨g, o, rfl, by have := hb.size; omega, (hb.cell (p := ⟨g, _, none⟩) hgB).trans h0, (hb.cell (p := ⟨g, _, none⟩) hgB).trans h1, (hb.cell (p := ⟨g, _, none⟩) hgB).trans h2, (hb.cell (p := ⟨g, _, none⟩) hgB).trans h3⟩
theorem Sms.later {w w' : World} {A : Option Addr} {l : List Sm} (h : Sms w A l) (hb : Below w.heap.size w w') : Sms w' A l := fun k p hp => by
  obtain ⟨g, o, rfl, hg, h0, h1, h2, h3⟩ := h k p hp
  exact ⟨g, o, rfl, by have := hb.size; omega, (hb.cell (p := ⟨g, _, none⟩) hg).trans h0, (hb.cell (p := ⟨g, _, none⟩) hg).trans h1, (hb.cell (p := ⟨g, _, none⟩) hg).trans h2, (hb.cell (p := ⟨g, _, none⟩) hg).trans h3⟩
/-- The samples from one on. -/
theorem Sms.drop {w : World} {g o : Nat} {l : List Sm} (h : Sms w (some ⟨g, o, none⟩) l) (m : Nat) : Sms w (some ⟨g, o + m * 4, none⟩) (l.drop m) := fun k p hp => by
  rw [List.getElem?_drop] at hp
  obtain ⟨g', o', e, hg, h0, h1, h2, h3⟩ := h _ p hp
  injection e with e
  injection e with e1 e2 _
  subst e1 e2
  have q : o + (m + k) * 4 = o + m * 4 + k * 4 := by omega
  rw [q] at h0 h1 h2 h3
  exact ⟨g, _, rfl, hg, h0, h1, h2, h3⟩
theorem Sms.take {w : World} {A : Option Addr} {l : List Sm} (h : Sms w A l) (m : Nat) : Sms w A (l.take m) := fun k p hp => by
  rw [List.getElem?_take] at hp
  split at hp
  · exact h k p hp
  · cases hp
theorem sms_own {w : World} {base n cp : Nat} {A : Option Addr} {l : List Sm} (h : w.ownsRow base 31 4 (.slice A n cp) n (flat l)) : Sms w A l := fun k p hp => by
  have hk : k < l.length := (List.getElem?_eq_some_iff.1 hp).1
  have hn : l.length = n := by have h1 := h.1; rw [length_flat] at h1; omega
  rcases h.2 with ⟨e1, h0⟩ | ⟨g, cap, cur, e1, hb, hg, rest⟩
  · omega
  · injection e1 with e1 _ e3
    subst e1 e3
    refine ⟨g, 0, rfl, heap_lt hg, ?_, ?_, ?_, ?_⟩
    · rw [Nat.zero_add]; exact (h.cellAt _ (by omega)).trans (flat_get l k 0 p hp (by omega))
    · rw [Nat.zero_add]; exact (h.cellAt _ (by omega)).trans (flat_get l k 1 p hp (by omega))
    · rw [Nat.zero_add]; exact (h.cellAt _ (by omega)).trans (flat_get l k 2 p hp (by omega))
    · rw [Nat.zero_add]; exact (h.cellAt _ (by omega)).trans (flat_get l k 3 p hp (by omega))

theorem sall_any {w : World} {base sb c : Nat} {l : List Sm} (h : St w base sb c l) :
    Calls Try.prog 39 #[.pointer (some ⟨sb, 0, none⟩)] w fun e w' => e = .returned (.slice (some ⟨w.heap.size, 0, none⟩) l.length l.length) ∧ (∃ cur, w'.heap[w.heap.size]? = some (.cells cur 31 (0, 0))) ∧ Sms w' (some ⟨w.heap.size, 0, none⟩) l ∧ Below w.heap.size w w' := by
  obtain ⟨rb, v, h⟩ := h
  have f0 := h.cell
  have H := Lib.hid h
  clear h
  go_enter Try.func39, Try.ntmps39
  go_wp2_with fail
  refine (all_smp H.out.ring (by omega)).mono ?_
  rintro e w1 ⟨rfl, ho, hb⟩
  have H1 := Lib.hid (And.intro ho hb)
  clear ho hb
  go_wp2
  go_ret
  obtain ⟨cur, hg, _⟩ := own_new H1.out.1
  exact ⟨rfl, ⟨_, hg⟩, sms_own H1.out.1, H1.out.2⟩
theorem sall_nil (w : World) : Calls Try.prog 39 #[.pointer none] w fun e w' => e = .returned (.slice none 0 0) ∧ w = w' := by
  go_enter Try.func39, Try.ntmps39
  go_wp2
  go_ret
  exact ⟨rfl, rfl⟩
/-- The range function's making: three variables in blocks of their own. -/
theorem freshAt_any (P : Option Addr) (h life : Int) (w : World) : Calls Try.prog 32 #[.pointer P, .int .i64 h, .int .i64 life] w fun e w' =>
    e = .returned (.func (.func 38) #[] #[.pointer (some ⟨w.heap.size, 0, none⟩), .pointer (some ⟨w.heap.size + 1, 0, none⟩), .pointer (some ⟨w.heap.size + 2, 0, none⟩)]) ∧
    w' = ((w.alloc (.cells #[.pointer P] 41)).alloc (.cells #[.int .i64 h] 2)).alloc (.cells #[.int .i64 life] 2) := by
  go_enter Try.func32, Try.ntmps32
  go_wp2
  go_ret
  exact ⟨rfl, rfl⟩
end Go.Proofs.Ytcmmhgalnfleoaa
