/- A queue of string keys in memory: its struct, its map; New, Len, whether a key may be asked, Set, Drop, At. -/
import Derived.Test.YtebdhleggbccdaaWq
import Derived.Test.YtebdhleggbccdaaMem
import Derived.Maps.RangeWalk
import Derived.Maps.OwnOps
import Derived.Defers
import Derived.Recover
import Derived.Deep.RegionLaw
import Derived.Deep.RegionHeld3
import Derived.StillTailTactics
import Derived.Laws.Cover1
import Derived.Laws.Pointers
namespace Go.Proofs.Ytebdhleggbccdaa.ks
open Go.RowKit Go.Maps

def KL (x : ByteArray) : Lit := (Lit.string (x).data.toList)
def KOk (x : ByteArray) : Prop := x.size ≤ maxLen
theorem KL_inj (x y : ByteArray) (h : KL x = KL y) : x = y := by
  simp only [KL, Lit.string.injEq] at h; exact ByteArray.ext (Array.toList_inj.1 h)
theorem keyed : Keyed Try.prog 9 := string_keyed Try.underlying9
theorem key_mk {x : ByteArray} (h : KOk x) : keyOf Try.prog 9 (.string x) = some (KL x) := by
  simp [keyOf, Try.underlying9, mapKey, KL]; exact h
theorem KL_key {x : ByteArray} (h : KOk x) : WideAt.IsKeyLit (KL x) := keyed.key (key_mk h)
theorem key_inv {key : Value} {kl : Lit} (h : keyOf Try.prog 9 key = some kl) : ∃ x : ByteArray, key = (.string x) ∧ kl = KL x ∧ KOk x := by
  cases key <;> simp [keyOf, Try.underlying9, mapKey] at h
  rename_i s
  obtain ⟨hs, rfl⟩ := h
  exact ⟨s, rfl, rfl, hs⟩
/-- How a turn reads. -/
def turnR : Value → Option (DataW Unit × List MemPlace)
  | .agg ⟨[.int .i64 a, .int .i64 s]⟩ => some (dT a s, [])
  | _ => none
theorem turnR_mk (a s : Int) : turnR (.agg #[.int .i64 a, .int .i64 s]) = some (dT a s, []) := rfl
theorem turnR_inv {v : Value} {z : DataW Unit × List MemPlace} (h : turnR v = some z) : ∃ a s : Int, v = .agg #[.int .i64 a, .int .i64 s] ∧ z = (dT a s, []) := by
  unfold turnR at h
  split at h
  · injection h with h
    exact ⟨_, _, rfl, h.symm⟩
  · cases h
theorem zero_turn (w : World) : (zeroValue 61).run Try.prog w = .ok (.agg #[.int .i64 0, .int .i64 0]) w := by kernel_rfl
/-- A queue: its struct in block b, its map in block m, s Sets till now, and L. -/
structure Q (w : World) (base b m s : Nat) (L : List (En ByteArray)) : Prop where
  blk : w.heap[b]? = some (.cells #[.map (some m), .int .i64 (s : Int)] 58 (0, 0))
  map : ∃ D, w.ownsMap Try.prog 9 turnR m s D ∧ RepQ KL D L
  ok : Okq (s : Int) L
  kok : ∀ e ∈ L, KOk e.1
  own : base ≤ b
  own' : base ≤ m
section
variable {w w' : World} {base b m s : Nat} {L : List (En ByteArray)}
theorem Q.lt (h : Q w base b m s L) : b < w.heap.size := heap_lt h.blk
theorem Q.ltm (h : Q w base b m s L) : m < w.heap.size := by obtain ⟨D, h1, _⟩ := h.map; exact h1.lt
theorem Q.ne (h : Q w base b m s L) : b ≠ m := fun e => by
  obtain ⟨D, ⟨es, c, hb, _⟩, _⟩ := h.map
  rw [← e, h.blk] at hb
  cases hb
theorem Q.facts (h : Q w base b m s L) : w.cell? ⟨b, 0, none⟩ = some (.map (some m)) ∧ w.cell? ⟨b, 1, none⟩ = some (.int .i64 (s : Int)) := by
  refine ⟨?_, ?_⟩
  all_goals (rw [cell_of_row _ _ _ _ _ _ h.blk]; rfl)
theorem Q.two {b' : Nat} {r : Option Nat} (h : Q w base b m s L) (t : Two b' r w w') (h1 : b ≠ b') (h2 : r ≠ some b) (h3 : m ≠ b') (h4 : r ≠ some m) : Q w' base b m s L := by
  obtain ⟨D, ho, hr⟩ := h.map
  have hm := h.ltm
  refine ⟨(t.block b h.lt h1 (fun e => h2 e.symm)).trans h.blk, ⟨D, ?_, hr⟩, h.ok, h.kok, h.own, h.own'⟩
  obtain ⟨es, c, hb, rest⟩ := ho
  exact ⟨es, c, (t.block m hm h3 (fun e => h4 e.symm)).trans hb, rest⟩
theorem Q.below {B : Nat} (h : Q w base b m s L) (hb : Below B w w') (hB : w.heap.size ≤ B) : Q w' base b m s L := by
  have hm := h.ltm
  obtain ⟨D, ho, hr⟩ := h.map
  refine ⟨(hb.block b (by have := h.lt; omega)).trans h.blk, ⟨D, ?_, hr⟩, h.ok, h.kok, h.own, h.own'⟩
  obtain ⟨es, c, h0, rest⟩ := ho
  exact ⟨es, c, (hb.block m (by omega)).trans h0, rest⟩
theorem Q.base_le (h : Q w base b m s L) : base ≤ w.heap.size := by have := h.own; have := h.lt; omega
theorem Q.size_le (h : Q w base b m s L) : L.length ≤ s := by
  obtain ⟨D, ho, hr⟩ := h.map
  rw [← hr.size]
  exact ho.size_le
end

/-! New, Len. -/
set_option maxRecDepth 100000 in
theorem new_any (w : World) : Calls Try.prog 8 #[] w fun e w' => e = .returned (.pointer (some ⟨w.heap.size + 1, 0, none⟩)) ∧ Q w' w.heap.size (w.heap.size + 1) w.heap.size 0 [] ∧ Below w.heap.size w w' := by
  have hD := World.ownsMap_made w Try.prog 9 turnR
  have HD := Lib.hid hD
  clear hD
  have hmm := fun W => run_makeMap (P := Try.prog) 56 W
  go_enter Try.func8, Try.ntmps8
  go_wp2
  go_ret
  have e1 : (w.alloc (.map #[] 0)).heap.size = w.heap.size + 1 := by simp
  refine ⟨rfl, ⟨?_, ⟨_, HD.out.alloc _, repQ_nil⟩, okq_nil _, (by simp), (by omega), Nat.le_refl _⟩, ((Below.refl _ _).alloc (Nat.le_refl _) _).alloc (by simp) _⟩
  have := heap_alloc_new (w.alloc (.map #[] 0)) (.cells #[.map (some w.heap.size), .int .i64 0] 58)
  rw [e1] at this
  exact this
set_option maxRecDepth 100000 in
theorem len_any {w : World} {base b m s : Nat} {L : List (En ByteArray)} (h : Q w base b m s L) : Calls Try.prog 20 #[.pointer (some ⟨b, 0, none⟩)] w fun e w' => e = .returned (.int .i64 (L.length : Int)) ∧ w' = w := by
  obtain ⟨D, ho, hr⟩ := h.map
  have f0 := h.facts.1
  have hz := hr.size
  have HO := Lib.hid ho
  clear h hr ho
  go_enter Try.func20, Try.ntmps20
  go_wp2_with (at_len; refine wpList_len_own _ rfl _ _ rfl 9 61 Try.underlying56 _ m s D rfl HO.out ?_; rw [hz])
  go_ret
  exact ⟨rfl, rfl⟩
set_option maxRecDepth 100000 in
theorem len_nil (w : World) : Calls Try.prog 20 #[.pointer none] w fun e w' => e = .returned (.int .i64 0) ∧ w' = w := by
  go_enter Try.func20, Try.ntmps20
  go_wp2
  go_ret
  exact ⟨rfl, rfl⟩

/-! Whether a key may be asked. -/
theorem catch_idle (p : Addr) (x : Bool) (w : World) (hc : w.cell? p = some (.bool x)) (hz : w.frozen? p = false) :
    CallsD Try.prog 37 #[.pointer (some p)] .returning w fun e u' w' => e = .returned (.tuple #[]) ∧ u' = .returning ∧ w' = w.setCell p (.bool true) := by
  refine callsD_of_wpS Try.func37 rfl fun c₀ cs hu => ?_
  apply wpS_region
  simp [wpOpsS, go_sem, recoverD, hu, Try.ntmps37, hc, hz]
  cases c₀
  simp_all [bodyPostS, results, Try.results37]
set_option maxRecDepth 100000 in
theorem takes_any {w : World} {base b m s : Nat} {L : List (En ByteArray)} (h : Q w base b m s L) {k : ByteArray} (hk : KOk k) : Calls Try.prog 28 #[.pointer (some ⟨b, 0, none⟩), (.string k)] w fun e w' => e = .returned (.bool true) ∧ Below w.heap.size w w' := by
  have hmf : ∀ (fn : Fn) (first cap : Array Value) (w : World), (Instr.makeFunc fn first cap).run Try.prog w = .ok (.func fn first cap) w := fun _ _ _ _ => rfl
  have hb : Below w.heap.size w (w.alloc (.cells #[.bool false] 4)) := (Below.refl _ _).alloc (Nat.le_refl _) _
  have h' := h.below hb (Nat.le_refl _)
  have f0 := h'.facts.1
  obtain ⟨D, ho, _⟩ := h'.map
  obtain ⟨v, ps, hrun, hv⟩ := ho.lookup keyed Try.underlying56 (zero_turn _) (turnR_mk 0 0) (key_mk hk)
  obtain ⟨a, t, rfl, _⟩ := turnR_inv hv
  clear hv ho h' h
  have HB := Lib.hid hb
  clear hb
  go_enter_defers Try.func28, Try.ntmps28
  go_wp2
  refine leaves_cons (f := 37) (args := #[.pointer (some ⟨w.heap.size, 0, none⟩)]) (by simp) (by simp [go_sem]) ?_
  refine (catch_idle ⟨w.heap.size, 0, none⟩ true _ ?_ ?_).mono ?_
  · simp [go_sem]
  · simp [go_sem]
  rintro e u' w'' ⟨rfl, rfl, rfl⟩
  simp [Leaves, settle, results, Try.results28, go_sem]
  exact (Below.refl _ _).alloc (Nat.le_refl _) _
theorem takes_nil (k : ByteArray) (w : World) : Calls Try.prog 28 #[.pointer none, (.string k)] w fun e w' => e = .returned (.bool false) ∧ Below w.heap.size w w' := by
  go_enter_defers Try.func28, Try.ntmps28
  go_wp2
  simp [bodyPostD, Leaves, results, Try.results28, go_sem]
  exact (Below.refl _ _).alloc (Nat.le_refl _) _

/-! Set, Drop. -/
set_option maxRecDepth 100000 in
set_option maxHeartbeats 1000000 in
theorem set_any {w : World} {base b m s : Nat} {L : List (En ByteArray)} (h : Q w base b m s L) {k : ByteArray} (hk : KOk k) {a : Int} (ha : (Lit.int .i64 a).wf = true) (hs : s ≤ 1000000) :
    Calls Try.prog 10 #[.pointer (some ⟨b, 0, none⟩), (.string k), .int .i64 a] w fun e w' => e = .returned (.tuple #[]) ∧ Q w' base b m (s + 1) (putQ k a ((s + 1 : Nat) : Int) L) ∧ Two b (some m) w w' := by
  have HK := Lib.hid hk
  have HA := Lib.hid ha
  have H := Lib.hid h
  clear h hk ha
  go_enter Try.func10, Try.ntmps10
  go_wp2_with fail
  refine (takes_any H.out HK.out).mono ?_
  rintro e w1 ⟨rfl, hb1⟩
  have h1 := H.out.below hb1 (Nat.le_refl _)
  obtain ⟨c0, c1⟩ := h1.facts
  have z1 := frozen_row h1.blk 1
  obtain ⟨q, hq⟩ : ∃ q, q = s + 1 := ⟨_, rfl⟩
  have e1 : (s : Int) + 1 = (q : Int) := by omega
  obtain ⟨W, hW⟩ : ∃ W, W = w1.setCell ⟨b, 1, none⟩ (.int .i64 (q : Int)) := ⟨_, rfl⟩
  have hB : W.heap[b]? = some (.cells #[.map (some m), .int .i64 (q : Int)] 58 (0, 0)) := by
    rw [hW]; exact heap_setCell_same w1 b 1 _ _ _ _ h1.blk
  have hT : Two b (some m) w W := by rw [hW]; exact (Two.of_below hb1).setCell 1 _
  obtain ⟨D, ho, hr⟩ := h1.map
  have ho2 : W.ownsMap Try.prog 9 turnR m s D := by rw [hW]; exact ho.setCell h1.ne.symm _
  have tidy := ho2.tidy keyed
  have HW := Lib.hid hW
  have R := Lib.hid (And.intro hB (And.intro hT (And.intro ho2 (And.intro hr tidy))))
  clear hB hT ho2 hr tidy ho hb1 h1
  have hq2 : q ≤ 1000001 := by omega
  have HQ := Lib.hid hq
  have wq : IntKind.i64.wrap (q : Int) = (q : Int) := by simp [IntKind.wrap, IntKind.bits, IntKind.signed]; omega
  clear hW hq
  go_wp2_with fail
  rw [← HW.out]
  have c2 : W.drew.cell? ⟨b, 0, none⟩ = some (.map (some m)) := by rw [show W.drew.cell? ⟨b, 0, none⟩ = W.cell? ⟨b, 0, none⟩ from rfl, cell_of_row _ _ _ _ _ _ R.out.1]; rfl
  have c3 : W.drew.cell? ⟨b, 1, none⟩ = some (.int .i64 (q : Int)) := by rw [show W.drew.cell? ⟨b, 1, none⟩ = W.cell? ⟨b, 1, none⟩ from rfl, cell_of_row _ _ _ _ _ _ R.out.1]; rfl
  clear c0 c1 z1 e1 wq
  go_still_tail 11, (by kernel_rfl)
  go_wp2_with (at_mapUpdate; refine wpList_mapUpdate_own _ rfl _ _ _ 56 rfl 9 61 keyed Try.underlying56 turnR m s D rfl R.out.2.2.1.drew (by unfold maxLen; omega) _ _ (KL k) rfl rfl (key_mk HK.out) _ [] (turnR_mk _ _) ?_; intro w3 ho3 hg3; have G3 := Lib.hid (And.intro ho3 hg3); clear ho3 hg3)
  go_end0
  obtain ⟨r1, r2, r3, r4, r5⟩ := R.out
  obtain ⟨g1, g2⟩ := G3.out
  have hbm := H.out.ne
  have e2 := HQ.out
  subst e2
  refine ⟨rfl, ⟨?_, ⟨_, g1, r4.put KL_inj H.out.ok r5 (KL_key HK.out) _ _⟩, ?_, fun e he => ?_, H.out.own, H.out.own'⟩, ?_⟩
  · exact (g2.block b (heap_lt r1) (fun e => hbm (by simpa using e))).trans r1
  · have := H.out.ok.put (by omega) k HA.out
    rwa [show ((s : Int) + 1) = ((s + 1 : Nat) : Int) by omega] at this
  · rcases List.mem_append.1 he with he | he
    · exact H.out.kok e (mem_drop.1 he).1
    · simp at he; subst he; exact HK.out
  · exact r2.trans ⟨g2.os, g2.tape, g2.output, g2.size, fun j hj _ hk => g2.block j hj hk⟩ (fun j hj => .inl hj)
theorem set_nil (k : ByteArray) (a : Int) (w : World) : Calls Try.prog 10 #[.pointer none, (.string k), .int .i64 a] w fun e w' => e = .returned (.tuple #[]) ∧ Below w.heap.size w w' := by
  go_enter Try.func10, Try.ntmps10
  go_wp2_with fail
  refine (takes_nil k _).mono ?_
  rintro e w1 ⟨rfl, hb1⟩
  have B1 := Lib.hid hb1
  clear hb1
  go_wp2
  first | go_end0 | refine bodyPost_ret (results_none rfl _ _ _) rfl ?_
  exact ⟨rfl, B1.out⟩
set_option maxRecDepth 100000 in
theorem drop_any {w : World} {base b m s : Nat} {L : List (En ByteArray)} (h : Q w base b m s L) {k : ByteArray} (hk : KOk k) :
    Calls Try.prog 12 #[.pointer (some ⟨b, 0, none⟩), (.string k)] w fun e w' => e = .returned (.tuple #[]) ∧ Q w' base b m s (dropQ k L) ∧ Two b (some m) w w' := by
  have HK := Lib.hid hk
  have H := Lib.hid h
  clear h hk
  go_enter Try.func12, Try.ntmps12
  go_wp2_with fail
  refine (takes_any H.out HK.out).mono ?_
  rintro e w1 ⟨rfl, hb1⟩
  have h1 := H.out.below hb1 (Nat.le_refl _)
  have c0 := h1.facts.1
  obtain ⟨D, ho, hr⟩ := h1.map
  have tidy := ho.tidy keyed
  have R := Lib.hid (And.intro h1.blk (And.intro (Two.of_below (b := b) (r := some m) hb1) (And.intro ho (And.intro hr tidy))))
  clear ho hr tidy hb1 h1
  go_wp2_with (at_delete; refine wpList_delete_own _ rfl _ _ 56 9 rfl 61 keyed Try.underlying56 turnR m s D rfl R.out.2.2.1 _ (KL k) rfl (key_mk HK.out) ?_; intro w3 ho3 ht3; have G3 := Lib.hid (And.intro ho3 ht3.grown); clear ho3 ht3)
  go_end0
  obtain ⟨r1, r2, r3, r4, r5⟩ := R.out
  obtain ⟨g1, g2⟩ := G3.out
  have hbm := H.out.ne
  refine ⟨rfl, ⟨?_, ⟨_, g1, r4.drop KL_inj H.out.ok r5 _⟩, H.out.ok.drop k, fun e he => H.out.kok e (mem_drop.1 he).1, H.out.own, H.out.own'⟩, ?_⟩
  · exact (g2.block b (heap_lt r1) (fun e => hbm (by simpa using e))).trans r1
  · exact r2.trans ⟨g2.os, g2.tape, g2.output, g2.size, fun j hj _ hk => g2.block j hj hk⟩ (fun j hj => .inl hj)
theorem drop_nil (k : ByteArray) (w : World) : Calls Try.prog 12 #[.pointer none, (.string k)] w fun e w' => e = .returned (.tuple #[]) ∧ Below w.heap.size w w' := by
  go_enter Try.func12, Try.ntmps12
  go_wp2_with fail
  refine (takes_nil k _).mono ?_
  rintro e w1 ⟨rfl, hb1⟩
  have B1 := Lib.hid hb1
  clear hb1
  go_wp2
  first | go_end0 | refine bodyPost_ret (results_none rfl _ _ _) rfl ?_
  exact ⟨rfl, B1.out⟩

/-! At. -/
set_option maxRecDepth 100000 in
theorem at_any {w : World} {base b m s : Nat} {L : List (En ByteArray)} (h : Q w base b m s L) {k : ByteArray} (hk : KOk k) :
    Calls Try.prog 16 #[.pointer (some ⟨b, 0, none⟩), (.string k)] w fun e w' => e = .returned (.tuple #[.int .i64 ((atQ k L).getD 0), .bool (atQ k L).isSome]) ∧ Below w.heap.size w w' := by
  have HK := Lib.hid hk
  have H := Lib.hid h
  clear h hk
  generalize hx1 : (atQ k L).getD 0 = x1
  generalize hx2 : (atQ k L).isSome = x2
  have HX := Lib.hid (And.intro hx1 hx2)
  clear hx1 hx2
  go_enter Try.func16, Try.ntmps16
  go_wp2_with fail
  refine (takes_any H.out HK.out).mono ?_
  rintro e w1 ⟨rfl, hb1⟩
  have h1 := H.out.below hb1 (Nat.le_refl _)
  have c0 := h1.facts.1
  obtain ⟨D, ho, hr⟩ := h1.map
  obtain ⟨v, ps, hrun, hv⟩ := ho.look_ok keyed Try.underlying56 (zero_turn _) (turnR_mk 0 0) (key_mk HK.out)
  obtain ⟨a, t, rfl, he⟩ := turnR_inv hv
  have hans : a = x1 ∧ has D (KL k) = x2 := by
    rw [← HX.out.1, ← HX.out.2]
    simp only [Prod.mk.injEq] at he
    by_cases hin : ∃ e ∈ L, e.1 = k
    · obtain ⟨e, h2, rfl⟩ := hin
      rw [hr.at' e h2] at he
      rw [atQ_some h1.ok h2 rfl, hr.has_of h2]
      have := he.1
      simp [dT] at this
      simp [this.1]
    · have hn : ∀ e ∈ L, e.1 ≠ k := fun e h2 h3 => hin ⟨e, h2, h3⟩
      have hh := hr.not_has KL_inj hn
      rw [atKey_of_not_has hh] at he
      rw [atQ_none hn, hh]
      have := he.1
      simp [dT] at this
      simp [this.1]
  obtain ⟨rfl, hx⟩ := hans
  rw [hx] at hrun
  have HB := Lib.hid hb1
  clear hx he hv ho hr h1 hb1
  go_wp2
  go_ret2
  exact ⟨rfl, HB.out.alloc HB.out.size _⟩
theorem at_nil (k : ByteArray) (w : World) : Calls Try.prog 16 #[.pointer none, (.string k)] w fun e w' => e = .returned (.tuple #[.int .i64 0, .bool false]) ∧ Below w.heap.size w w' := by
  go_enter Try.func16, Try.ntmps16
  go_wp2_with fail
  refine (takes_nil k _).mono ?_
  rintro e w1 ⟨rfl, hb1⟩
  have B1 := Lib.hid hb1
  clear hb1
  go_wp2
  go_ret2
  exact ⟨rfl, B1.out⟩
end Go.Proofs.Ytebdhleggbccdaa.ks
