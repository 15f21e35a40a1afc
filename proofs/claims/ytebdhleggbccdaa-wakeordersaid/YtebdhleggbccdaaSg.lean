/- A map of the walk's own that holds when each key of a queue is due; keys that were seen; what is due first. -/
import Derived.Test.YtebdhleggbccdaaTq
import Derived.Test.YtebdhleggbccdaaWd
namespace Go.Proofs.Ytebdhleggbccdaa
open Go.RowKit Go.Maps

section
variable {H : Type} {D : DataW H} {L : List Ent} {s : Int}
def dA (a : Int) : DataW H := .lit (.int .i64 a)
structure RepA (D : DataW H) (L : List Ent) : Prop where
  at' : ∀ e ∈ L, ∀ z, D.atKey (ks.KL e.1) z = dA e.2.1
  has : ∀ kl, Maps.has D kl = true → ∃ e ∈ L, kl = ks.KL e.1
  size : Maps.size D = L.length
theorem repA_nil : RepA (.map [] : DataW H) [] := ⟨by simp, fun kl h => (by cases h), rfl⟩
theorem RepA.has_of (h : RepA D L) {e : Ent} (he : e ∈ L) : Maps.has D (ks.KL e.1) = true := has_true_of_atKey (h.at' e he)
theorem RepA.not_has (h : RepA D L) {k : ByteArray} (hn : ∀ e ∈ L, e.1 ≠ k) : Maps.has D (ks.KL k) = false := by
  cases hh : Maps.has D (ks.KL k)
  · rfl
  · obtain ⟨e, he, hk⟩ := h.has _ hh
    exact absurd (ks.KL_inj _ _ hk).symm (hn e he)
theorem RepA.drop (h : RepA D L) (ok : Okq s L) (ht : Tidy D) (k : ByteArray) : RepA (D.del (ks.KL k)) (dropQ k L) := by
  refine ⟨fun e he z => ?_, fun kl hk => ?_, ?_⟩
  · obtain ⟨h1, h2⟩ := mem_drop.1 he
    rw [atKey_del_other (fun e' => h2 (ks.KL_inj _ _ e'))]
    exact h.at' e h1 z
  · by_cases e : kl = ks.KL k
    · subst e; rw [has_del_same] at hk; cases hk
    · rw [has_del_other e] at hk
      obtain ⟨x, hx, rfl⟩ := h.has _ hk
      exact ⟨x, mem_drop.2 ⟨hx, fun e' => e (by rw [e'])⟩, rfl⟩
  · have hs := size_del (k := ks.KL k) ht
    by_cases hin : ∃ e ∈ L, e.1 = k
    · obtain ⟨e, he, rfl⟩ := hin
      rw [h.has_of he, if_pos rfl, h.size] at hs
      have := length_drop_in ok he rfl
      omega
    · have hn : ∀ e ∈ L, e.1 ≠ k := fun e he hk => hin ⟨e, he, hk⟩
      rw [h.not_has hn, h.size] at hs
      rw [drop_of_not hn]
      simpa using hs
theorem RepA.put (h : RepA D L) (ok : Okq s L) (ht : Tidy D) {k : ByteArray} (hk : WideAt.IsKeyLit (ks.KL k)) (a t : Int) : RepA (D.put (ks.KL k) (dA a)) (putQ k a t L) := by
  unfold putQ
  refine ⟨fun e he z => ?_, fun kl hh => ?_, ?_⟩
  · rcases List.mem_append.1 he with he | he
    · obtain ⟨h1, h2⟩ := mem_drop.1 he
      rw [atKey_put_other (fun e' => h2 (ks.KL_inj _ _ e'))]
      exact h.at' e h1 z
    · simp at he; subst he
      exact atKey_put_same ht.isMap hk _ _
  · by_cases e : kl = ks.KL k
    · exact ⟨(k, a, t), by simp, e⟩
    · rw [has_put_other e] at hh
      obtain ⟨x, hx, rfl⟩ := h.has _ hh
      exact ⟨x, List.mem_append.2 (.inl (mem_drop.2 ⟨hx, fun e' => e (by rw [e'])⟩)), rfl⟩
  · rw [size_put ht, List.length_append, List.length_singleton]
    by_cases hin : ∃ e ∈ L, e.1 = k
    · obtain ⟨e, he, rfl⟩ := hin
      rw [h.has_of he, if_pos rfl, h.size]
      exact (length_drop_in ok he rfl).symm
    · have hn : ∀ e ∈ L, e.1 ≠ k := fun e he hk => hin ⟨e, he, hk⟩
      rw [h.not_has hn, h.size, drop_of_not hn]
      rfl
/-- Keys that were seen. -/
def SeenK (D : DataW H) (l : List Ent) : Prop := ∀ kl, Maps.has D kl = true ↔ ∃ e ∈ l, kl = ks.KL e.1
theorem seenK_nil : SeenK (.map [] : DataW H) [] := fun kl => ⟨fun h => (by cases h), fun ⟨_, h, _⟩ => by cases h⟩
theorem SeenK.put {l : List Ent} (h : SeenK D l) (hm : IsMap D) {x : Ent} (hk : WideAt.IsKeyLit (ks.KL x.1)) (d : DataW H) : SeenK (D.put (ks.KL x.1) d) (l ++ [x]) := fun kl => by
  by_cases e : kl = ks.KL x.1
  · subst e
    rw [has_put_same hm hk]
    simp
  · rw [has_put_other e, h kl]
    constructor
    · rintro ⟨y, hy, rfl⟩
      exact ⟨y, List.mem_append.2 (.inl hy), rfl⟩
    · rintro ⟨y, hy, rfl⟩
      rcases List.mem_append.1 hy with hy | hy
      · exact ⟨y, hy, rfl⟩
      · simp at hy; subst hy; exact absurd rfl e
end
theorem zero_i64 (w : World) : (zeroValue 2).run Try.prog w = .ok (.int .i64 0) w := by kernel_rfl
theorem zero_bool (w : World) : (zeroValue 4).run Try.prog w = .ok (.bool false) w := by kernel_rfl
/-- A look-up of a key that is there. -/
theorem lookA {w : World} {g n : Nat} {D : DataW Unit} {L : List Ent} (h : w.ownsMap Try.prog 9 (plainElem Try.prog 2) g n D) (r : RepA D L) {e : Ent} (he : e ∈ L) (hk : ks.KOk e.1) :
    (Instr.lookup 49 (.map (some g)) (.string e.1) true).run Try.prog w = .ok (.tuple #[.int .i64 e.2.1, .bool true]) w ∧ (Instr.lookup 49 (.map (some g)) (.string e.1) false).run Try.prog w = .ok (.int .i64 e.2.1) w := by
  constructor
  · obtain ⟨v, ps, hrun, hv⟩ := h.look_ok ks.keyed Try.underlying49 (zero_i64 w) (plainElem_int Try.underlying2 (by decide)) (ks.key_mk hk)
    rw [r.at' e he] at hv
    obtain ⟨c, rfl, hc, _⟩ := plainElem_int_inv Try.underlying2 hv
    simp [dA] at hc
    rw [r.has_of he] at hrun
    rw [hc.1]
    exact hrun
  · obtain ⟨c, hrun, hc, _⟩ := h.lookup_int ks.keyed Try.underlying49 Try.underlying2 (zero_i64 w) (ks.key_mk hk)
    rw [r.at' e he] at hc
    simp [dA] at hc
    rw [hc]
    exact hrun
set_option maxRecDepth 100000 in
theorem plainElem_bool_inv {v : Value} {z : DataW Unit × List MemPlace} (h : plainElem Try.prog 4 v = some z) : ∃ B, v = .bool B ∧ z = (.lit (.bool B), []) := by
  unfold plainElem at h
  rw [Try.underlying4] at h
  cases v <;> simp at h
  exact ⟨_, rfl, h.symm⟩
/-- Every element of such a map that is there is true. -/
def AllTrue (D : DataW Unit) : Prop := ∀ kl, Maps.has D kl = true → ∀ z, D.atKey kl z = .lit (.bool true)
theorem allTrue_nil : AllTrue (.map []) := fun kl h => by cases h
theorem AllTrue.put {D : DataW Unit} (h : AllTrue D) (hm : IsMap D) {k : Lit} (hk : WideAt.IsKeyLit k) : AllTrue (D.put k (.lit (.bool true))) := fun kl hh z => by
  by_cases e : kl = k
  · subst e; exact atKey_put_same hm hk _ _
  · rw [has_put_other e] at hh
    rw [atKey_put_other e]
    exact h kl hh z
theorem lookS {w : World} {g n : Nat} {D : DataW Unit} (h : w.ownsMap Try.prog 9 (plainElem Try.prog 4) g n D) (ht : AllTrue D) {k : ByteArray} (hk : ks.KOk k) :
    (Instr.lookup 50 (.map (some g)) (.string k) false).run Try.prog w = .ok (.bool (Maps.has D (ks.KL k))) w := by
  obtain ⟨v, ps, hrun, hv⟩ := h.lookup ks.keyed Try.underlying50 (zero_bool w) (plainElem_bool Try.underlying4 false) (ks.key_mk hk)
  obtain ⟨B, rfl, hB⟩ := plainElem_bool_inv hv
  have : B = Maps.has D (ks.KL k) := by
    cases hh : Maps.has D (ks.KL k)
    · rw [atKey_of_not_has hh] at hB
      simp at hB
      exact hB.1
    · rw [ht _ hh] at hB
      simp at hB
      exact hB.1
  rw [← this]
  exact hrun
/-! What is due first. -/
theorem due_first {n h : Int} {L : List Ent} (hn : IsNext L n) {e : Ent} (he : (dueQ h L)[0]? = some e) : e.2.1 = n := by
  have hm := mem_dueQ.1 (List.mem_of_getElem? he)
  have h1 := hn.2 e hm.1
  obtain ⟨x, hx, hxn⟩ := hn.1
  have hxd : x ∈ dueQ h L := mem_dueQ.2 ⟨hx, by omega⟩
  have hs := dueQ_sorted h L
  cases hl : dueQ h L with
  | nil => rw [hl] at he; cases he
  | cons y r =>
    rw [hl] at he hxd hs
    simp at he
    subst he
    rcases List.mem_cons.1 hxd with rfl | hx'
    · exact hxn
    · have := (List.pairwise_cons.1 hs).1 x hx'
      simp only [leE, Bool.or_eq_true, Bool.and_eq_true, decide_eq_true_eq] at this
      omega
theorem due_none {n h : Int} {L : List Ent} (hn : IsNext L n) (he : dueQ h L = []) : h < n := by
  obtain ⟨x, hx, hxn⟩ := hn.1
  rcases Int.lt_or_le h n with hh | hh
  · exact hh
  · have : x ∈ dueQ h L := mem_dueQ.2 ⟨hx, by omega⟩
    rw [he] at this
    cases this
theorem due_step {h : Int} {L : List Ent} {j : Nat} {x y : Ent} (hx : (dueQ h L)[j]? = some x) (hy : (dueQ h L)[j + 1]? = some y) : x.2.1 ≤ y.2.1 := by
  obtain ⟨h1, h2⟩ := List.getElem?_eq_some_iff.1 hx
  obtain ⟨k1, k2⟩ := List.getElem?_eq_some_iff.1 hy
  have := List.pairwise_iff_getElem.1 (dueQ_sorted h L) j (j + 1) h1 k1 (by omega)
  rw [h2, k2] at this
  simp only [leE, Bool.or_eq_true, Bool.and_eq_true, decide_eq_true_eq] at this
  omega
/-- No key is due twice. -/
theorem due_nodup {h s : Int} {L : List Ent} (ok : Okq s L) {j k : Nat} {x y : Ent} (hjk : j < k) (hx : (dueQ h L)[j]? = some x) (hy : (dueQ h L)[k]? = some y) : x.1 ≠ y.1 := by
  have hp : ((dueQ h L).map (·.1)).Nodup := (List.Perm.nodup_iff ((List.mergeSort_perm _ _).map _)).2 (List.Sublist.nodup (List.Sublist.map _ List.filter_sublist) ok.keys)
  obtain ⟨h1, h2⟩ := List.getElem?_eq_some_iff.1 hx
  obtain ⟨k1, k2⟩ := List.getElem?_eq_some_iff.1 hy
  have := List.pairwise_iff_getElem.1 hp j k (by simpa using h1) (by simpa using k1) hjk
  rw [List.getElem_map, List.getElem_map, h2, k2] at this
  exact this
/-- A queue and a map of the walk's own. -/
structure Og (w wi : World) (b m s : Nat) (L : List Ent) (mt n : Nat) (D : DataW Unit) : Prop where
  q : Oq w wi b m s L
  at' : wi.ownsMap Try.prog 9 (plainElem Try.prog 2) mt n D
  rep : RepA D L
  own : w.heap.size ≤ mt
  ne : mt ≠ b ∧ mt ≠ m
section
variable {w wi wj : World} {b m s t mt n n' : Nat} {L L' : List Ent} {D D' : DataW Unit}
theorem map_below {k : TypeId} {R : Value → Option (DataW Unit × List MemPlace)} {g : Nat} (h : wi.ownsMap Try.prog k R g n D) (hb : Below wi.heap.size wi wj) : wj.ownsMap Try.prog k R g n D := by
  have hl := h.lt
  obtain ⟨es, c, h0, rest⟩ := h
  exact ⟨es, c, (hb.block g hl).trans h0, rest⟩
theorem Og.below (h : Og w wi b m s L mt n D) (hb : Below wi.heap.size wi wj) : Og w wj b m s L mt n D := ⟨h.q.below hb, map_below h.at' hb, h.rep, h.own, h.ne⟩
theorem Og.wrote_q (h : Og w wi b m s L mt n D) (hq : ks.Q wj w.heap.size b m t L') (g : Two b (some m) wi wj) : Oq w wj b m t L' ∧ wj.ownsMap Try.prog 9 (plainElem Try.prog 2) mt n D := by
  have hl := h.at'.lt
  refine ⟨h.q.wrote hq g, ?_⟩
  obtain ⟨es, c, h0, rest⟩ := h.at'
  exact ⟨es, c, (g.block mt hl h.ne.1 (fun e => h.ne.2 (by injection e))).trans h0, rest⟩
theorem wrote_m (q : Oq w wi b m s L) (own : w.heap.size ≤ mt) (ne : mt ≠ b ∧ mt ≠ m) (hs : wj.ownsMap Try.prog 9 (plainElem Try.prog 2) mt n' D') (g : wi.grownBy wj (some mt)) (hr : RepA D' L) : Og w wj b m s L mt n' D' := by
  have tt : Two mt none wi wj := ⟨g.os, g.tape, g.output, g.size, fun j hj hn _ => g.block j hj (fun e => hn (by injection e))⟩
  exact ⟨⟨q.q.two tt ne.1.symm (by simp) ne.2.symm (by simp), q.bel.trans (tt.below q.bel.size own (by simp))⟩, hs, hr, own, ne⟩
end
theorem lies_map {w w' : World} {A : Option Addr} {cs : List Value} {k : TypeId} {R : Value → Option (DataW Unit × List MemPlace)} {g n : Nat} {D : DataW Unit} (h : Lies w A cs) (hm : w.ownsMap Try.prog k R g n D) (gr : w.grownBy w' (some g)) : Lies w' A cs := by
  rcases h with h | ⟨g', o, e, hg, hc⟩
  · exact .inl h
  · cases cs with
    | nil => exact .inl rfl
    | cons v r =>
      have hne : g' ≠ g := fun e' => by
        subst e'
        obtain ⟨es, c, hb, _⟩ := hm
        have := hc 0 v rfl
        unfold World.cell? at this
        rw [hb] at this
        cases this
      refine .inr ⟨g', o, e, by have := gr.size; omega, fun j u hu => ?_⟩
      rw [← hc j u hu]
      unfold World.cell?
      rw [gr.block g' hg (fun e' => hne (by injection e'))]
/-- What is due, and what was seen of it. -/
structure Sk (w wi : World) (b m s : Nat) (L : List Ent) (mt i : Nat) (D : DataW Unit) (H ms : Nat) (lim : Int) (n j : Nat) (DS : DataW Unit) : Prop where
  og : Og w wi b m s L mt i D
  due : Lies wi (some ⟨H, 0, none⟩) (ks.keysOf (dueQ lim L))
  se : wi.ownsMap Try.prog 9 (plainElem Try.prog 4) ms n DS
  own : w.heap.size ≤ ms
  ne : ms ≠ b ∧ ms ≠ m ∧ ms ≠ mt
  seen : SeenK DS ((dueQ lim L).take j)
  tr : AllTrue DS
section
variable {w wi wj : World} {b m s mt i H ms n j : Nat} {L : List Ent} {D DS DS' : DataW Unit} {lim : Int}
theorem Sk.below (h : Sk w wi b m s L mt i D H ms lim n j DS) (hb : Below wi.heap.size wi wj) : Sk w wj b m s L mt i D H ms lim n j DS := ⟨h.og.below hb, h.due.later hb, map_below h.se hb, h.own, h.ne, h.seen, h.tr⟩
theorem Sk.put (h : Sk w wi b m s L mt i D H ms lim n j DS) {x : Ent} (hx : (dueQ lim L)[j]? = some x) (hs : wj.ownsMap Try.prog 9 (plainElem Try.prog 4) ms (n + 1) (DS.put (ks.KL x.1) (.lit (.bool true)))) (g : wi.grownBy wj (some ms)) :
    Sk w wj b m s L mt i D H ms lim (n + 1) (j + 1) (DS.put (ks.KL x.1) (.lit (.bool true))) := by
  have hk := ks.KL_key (h.og.q.q.kok x (mem_dueQ.1 (List.mem_of_getElem? hx)).1)
  have tt : Two ms none wi wj := ⟨g.os, g.tape, g.output, g.size, fun j hj hn _ => g.block j hj (fun e => hn (by injection e))⟩
  have hat : wj.ownsMap Try.prog 9 (plainElem Try.prog 2) mt i D := h.og.at'.kept g (fun e => h.ne.2.2 (by injection e with e; exact e.symm))
  refine ⟨⟨⟨h.og.q.q.two tt h.ne.1.symm (by simp) h.ne.2.1.symm (by simp), h.og.q.bel.trans (tt.below h.og.q.bel.size h.own (by simp))⟩, hat, h.og.rep, h.og.own, h.og.ne⟩, lies_map h.due h.se g, hs, h.own, h.ne, ?_, h.tr.put h.se.isMap hk⟩
  rw [take_snoc_l hx]
  exact h.seen.put h.se.isMap hk _
/-- What isn't yet seen. -/
theorem Sk.fresh (h : Sk w wi b m s L mt i D H ms lim n j DS) {x : Ent} (hx : (dueQ lim L)[j]? = some x) : Maps.has DS (ks.KL x.1) = false := by
  cases hh : Maps.has DS (ks.KL x.1)
  · rfl
  · obtain ⟨e, he, hk⟩ := (h.seen _).1 hh
    obtain ⟨t, ht, rfl⟩ := List.getElem_of_mem he
    rw [List.length_take] at ht
    have h1 : (dueQ lim L)[t]? = some ((dueQ lim L).take j)[t] := by
      rw [List.getElem_take]
      exact List.getElem?_eq_getElem (by omega)
    exact absurd (ks.KL_inj _ _ hk).symm (due_nodup h.og.q.q.ok (by omega) h1 hx)
/-- All was seen. -/
theorem Sk.all (h : Sk w wi b m s L mt i D H ms lim n j DS) (hj : (dueQ lim L).length ≤ j) {e : Ent} (he : e ∈ L) (hle : e.2.1 ≤ lim) : Maps.has DS (ks.KL e.1) = true :=
  (h.seen _).2 ⟨e, by rw [List.take_of_length_le hj]; exact mem_dueQ.2 ⟨he, hle⟩, rfl⟩
end
set_option maxRecDepth 100000 in
/-- An entry of the map is one of the queue's. -/
theorem came_a {D : DataW Unit} {L : List Ent} (r : RepA D L) {x : ByteArray} {c : Int} {kl : Lit} {yd : DataW Unit} {yp : List MemPlace} (hk : keyOf Try.prog 9 (.string x) = some kl) (hv : plainElem Try.prog 2 (.int .i64 c) = some (yd, yp)) (hat : ∀ zd, D.atKey kl zd = yd) : ∃ e ∈ L, e.1 = x ∧ e.2.1 = c := by
  obtain ⟨x', ex, rfl, _⟩ := ks.key_inv hk
  injection ex with ex
  subst ex
  obtain ⟨e, he, hke⟩ := r.has _ (has_true_of_atKey hat)
  refine ⟨e, he, (ks.KL_inj _ _ hke).symm, ?_⟩
  have h1 := r.at' e he .nil
  rw [← hke, hat] at h1
  obtain ⟨a, ea, hz, _⟩ := plainElem_int_inv Try.underlying2 hv
  injection ea with _ ea
  subst ea
  simp [h1, dA] at hz
  exact hz.1
end Go.Proofs.Ytebdhleggbccdaa
