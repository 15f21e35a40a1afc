/- The range function over a store's fresh samples: what it hands to a round, one after another. -/
import Derived.RangeFuncNested
import Derived.RangeFuncBound
import Derived.RangeFuncCalls
import Derived.RangeFuncLeaves
import Derived.Shelf.Abstract
import Derived.Shelf.RegionOpen
import Derived.WalkKit
import Derived.OwnWalkIn
import Derived.TacticsInMore
import Derived.LoopNIn
import Derived.LoopIn
import Derived.Test.YtcmmhgalnfleoaaFr
namespace Go.Proofs.Ytcmmhgalnfleoaa
open Go.RowKit Go.Shelf
attribute [local go_sem] Oper.semAt_some

abbrev Sm.val (p : Sm) : Value := .agg #[.int .i64 p.o, .int .i64 p.d, .int .i64 p.t, .int .i64 p.s]
/-- What a round keeps: all cells but those of two blocks. -/
structure Kp (b1 b2 : Nat) (W W' : World) : Prop where
  os : W'.os = W.os
  tape : W'.tape = W.tape
  output : W'.output = W.output
  size : W.heap.size ≤ W'.heap.size
  same : ∀ k o, W.heap[k]? = some o → o.isCells = true → k ≠ b1 → k ≠ b2 → W'.heap[k]? = some o
theorem Kp.refl (b1 b2 : Nat) (W : World) : Kp b1 b2 W W := ⟨rfl, rfl, rfl, Nat.le_refl _, fun _ _ h _ _ _ => h⟩
theorem Kp.trans {b1 b2 : Nat} {A B C : World} (h : Kp b1 b2 A B) (k : Kp b1 b2 B C) : Kp b1 b2 A C :=
  ⟨k.os.trans h.os, k.tape.trans h.tape, k.output.trans h.output, Nat.le_trans h.size k.size, fun j o hj ho h1 h2 => k.same j o (h.same j o hj ho h1 h2) ho h1 h2⟩
theorem Kp.of_below {b1 b2 : Nat} {A B : World} (h : Below A.heap.size A B) : Kp b1 b2 A B :=
  ⟨h.os, h.tape, h.output, h.size, fun j _ hj _ _ _ => (h.block j (Array.getElem?_eq_some_iff.1 hj).1).trans hj⟩
theorem Kp.putObj {b1 b2 : Nat} (W : World) (l : Nat) (o o' : Obj) (h : W.heap[l]? = some o) (hc : o.isCells = false) : Kp b1 b2 W (W.putObj l o') := by
  refine ⟨rfl, rfl, rfl, by simp [World.putObj], fun j q hj hq _ _ => ?_⟩
  refine (World.putObj_heap_other (fun e => ?_)).trans hj
  subst e
  rw [h] at hj
  injection hj with hj
  subst hj
  rw [hc] at hq
  cases hq
theorem grown_of_below {A B : World} (h : Below A.heap.size A B) : A.grownBy B none := ⟨h.os, h.tape, h.output, h.size, fun k hk _ => h.block k hk⟩
theorem abides_below {β : Type} {B : Nat} {J : β → World → Prop} {s : β} {W W' : World} (hJ : AbidesFrom B J) (h : J s W) (hb : Below W.heap.size W W') : J s W' :=
  hJ s W W' none h (grown_of_below hb) (fun r e => by cases e)
/-- Samples of a row that a round keeps. -/
theorem Sms.kp {b1 b2 g o : Nat} {W W' : World} {l : List Sm} {cur : Array Value} (h : Sms W (some ⟨g, o, none⟩) l) (hk : Kp b1 b2 W W') (hg : W.heap[g]? = some (.cells cur 31 (0, 0))) (h1 : g ≠ b1) (h2 : g ≠ b2) : Sms W' (some ⟨g, o, none⟩) l := by
  have e := hk.same g _ hg rfl h1 h2
  have q : ∀ j, W'.cell? ⟨g, j, none⟩ = W.cell? ⟨g, j, none⟩ := fun j => World.cell?_of_block (a := ⟨g, j, none⟩) (e.trans hg.symm)
  intro k p hp
  obtain ⟨g', o', e1, hg', c0, c1, c2, c3⟩ := h k p hp
  injection e1 with e1
  injection e1 with e1 e2 _
  subst e1 e2
  exact ⟨g, o, rfl, by have := hk.size; omega, (q _).trans c0, (q _).trans c1, (q _).trans c2, (q _).trans c3⟩
theorem filter_snoc {L : List Sm} {k : Nat} {p : Sm} {f : Sm → Bool} (h : L[k]? = some p) : (L.take (k + 1)).filter f = (L.take k).filter f ++ (if f p = true then [p] else []) := by
  rw [take_snoc h, List.filter_append]
  congr 1
  by_cases hf : f p = true
  · rw [if_pos hf]; simp [hf]
  · rw [if_neg hf]; simp [hf]

theorem wide_depth {p : Prop} (h : Fence.wide.depth.isSome = true) : p := by cases h

set_option maxRecDepth 100000 in
set_option maxHeartbeats 2000000 in
theorem iter_any (n l b1 b2 B : Nat) (h life : Int) (L : List Sm) {base sb c : Nat} (J Jx : List Sm → World → Prop) (W : World) (hh1 : -9223372036854775808 ≤ h) (hh2 : h ≤ 9223372036854775807) (hL : ∀ p ∈ L, p.In) (hJ : AbidesFrom W.heap.size J)
    (hY : ∀ pre x W1, J pre W1 → pre.length < 9 → YieldAt Fence.wide (n - 1) Try.prog l #[x.val] W1 fun e W' =>
      (e = .returned (.bool true) ∧ J (pre ++ [x]) W' ∧ Kp b1 b2 W1 W') ∨ (e = .returned (.bool false) ∧ Jx (pre ++ [x]) W'))
    (B0 : Boxed W B 41 (.pointer (some ⟨sb, 0, none⟩))) (B1 : Boxed W (B + 1) 2 (.int .i64 h)) (B2 : Boxed W (B + 2) 2 (.int .i64 life)) (n1 : b1 < B) (n2 : b2 < B) (hS : St W base sb c L) (h0 : J [] W) :
    CallsIn Fence.wide n Try.prog 38 #[.func (.yield l) #[] #[], .pointer (some ⟨B, 0, none⟩), .pointer (some ⟨B + 1, 0, none⟩), .pointer (some ⟨B + 2, 0, none⟩)] W fun e W' => (∃ v, e = .returned v) ∧
      ((∃ ys, ys = L.filter (isFresh h life) ∧ J ys W') ∨ (∃ pre, True ∧ Jx pre W')) := by
  have c0 := B0.cell
  have hle := hS.le
  have HS := Lib.hid (And.intro hS (And.intro B0 (And.intro B1 B2)))
  have HY := Lib.hid hY
  have HJ := Lib.hid hJ
  have HL := Lib.hid hL
  clear hS B0 B1 B2 hY hJ hL
  refine callsIn_of_wp Try.func38 rfl trivial ?_ rfl
  simp only [Try.ntmps38, List.size_toArray, List.length_cons, List.length_nil, Nat.reduceAdd, Nat.reduceSub, Array.replicate_succ, Array.replicate_zero, List.push_toArray, List.append_toArray, List.nil_append, List.cons_append]
  gi_wp2_with fail
  refine ⟨trivial, wide_depth, callsIn_wide.2 ((sall_any HS.out.1).mono ?_)⟩
  rintro e W1 ⟨rfl, ⟨cur, hcur⟩, hm, hb⟩
  have HW := Lib.hid (And.intro hcur (And.intro hm (And.intro hb (abides_below HJ.out h0 hb))))
  clear hcur hm hb c0
  gi_wp2_with fail
  gi_loopw [10] (fun i wr => ∃ k : Nat, k ≤ L.length ∧ i = .int .i64 (k : Int) ∧ Hid (J ((L.take k).filter (isFresh h life)) wr ∧ Kp b1 b2 W1 wr))
    (fun i _ => L.length - (intOf i).toNat)
  case atStart => exact ⟨0, Nat.zero_le _, rfl, Lib.hid ⟨HW.out.2.2.2, Kp.refl _ _ _⟩⟩
  case round =>
    obtain ⟨k, hk, rfl, R⟩ := hrel
    by_cases hlt : k < L.length
    · obtain ⟨p, hp⟩ : ∃ p, L[k]? = some p := ⟨_, List.getElem?_eq_getElem hlt⟩
      have kW := R.out.2
      have hbw := HW.out.2.2.1
      have ltB : B < W.heap.size := HS.out.2.1.lt
      have ltB2 : B + 2 < W.heap.size := HS.out.2.2.2.lt
      have g1 := (HW.out.2.1.kp kW HW.out.1 (by omega) (by omega)) k p hp
      obtain ⟨g', o', e', _, x0, x1, x2, x3⟩ := g1
      injection e' with e'
      injection e' with e1 e2 _
      subst e1 e2
      rw [Nat.zero_add] at x0 x1 x2 x3
      obtain ⟨W2, hW2⟩ : ∃ W2, W2 = wr.alloc (.cells #[.int .i64 p.o, .int .i64 p.d, .int .i64 p.t, .int .i64 p.s] 31) := ⟨_, rfl⟩
      have hb2 : Below wr.heap.size wr W2 := by rw [hW2]; exact (Below.refl _ _).alloc (Nat.le_refl _) _
      have k2 : Kp b1 b2 W1 W2 := kW.trans (Kp.of_below hb2)
      have c1 : W2.cell? ⟨B + 1, 0, none⟩ = some (.int .i64 h) := Boxed.cell (t := 2) (k2.same (B + 1) _ ((hbw.block _ (by omega)).trans HS.out.2.2.1) rfl (by omega) (by omega))
      have c2 : W2.cell? ⟨B + 2, 0, none⟩ = some (.int .i64 life) := Boxed.cell (t := 2) (k2.same (B + 2) _ ((hbw.block _ (by omega)).trans HS.out.2.2.2) rfl (by omega) (by omega))
      have hpi := HL.out p (List.mem_of_getElem? hp)
      have J2 := abides_below HJ.out R.out.1 hb2
      have R2 := Lib.hid (And.intro J2 k2)
      have hlen : ((L.take k).filter (isFresh h life)).length < 9 := by
        have := List.length_filter_le (isFresh h life) (L.take k)
        rw [List.length_take] at this
        omega
      rw [hW2] at c1 c2
      clear kW hbw hb2 k2 J2 R
      gi_wp2_with fail
      refine ⟨trivial, wide_depth, callsIn_wide.2 ((fresh_any p.o p.d p.t p.s h life _ hpi.t1 hpi.t2 hh1 hh2).mono ?_)⟩
      rintro e W3 ⟨rfl, hb3⟩
      rw [← hW2] at hb3
      have gX : W3.heap[wr.heap.size]? = some (.cells #[.int .i64 p.o, .int .i64 p.d, .int .i64 p.t, .int .i64 p.s] 31 (0, 0)) := (hb3.block _ (by rw [hW2]; simp)).trans (by rw [hW2]; exact heap_alloc_new wr _)
      have y0 : W3.cell? ⟨wr.heap.size, 0, none⟩ = some (.int .i64 p.o) := by rw [cell_of_row _ _ _ _ _ _ gX]; rfl
      have y1 : W3.cell? ⟨wr.heap.size, 1, none⟩ = some (.int .i64 p.d) := by rw [cell_of_row _ _ _ _ _ _ gX]; rfl
      have y2 : W3.cell? ⟨wr.heap.size, 2, none⟩ = some (.int .i64 p.t) := by rw [cell_of_row _ _ _ _ _ _ gX]; rfl
      have y3 : W3.cell? ⟨wr.heap.size, 3, none⟩ = some (.int .i64 p.s) := by rw [cell_of_row _ _ _ _ _ _ gX]; rfl
      have J3 := abides_below HJ.out R2.out.1 hb3
      have k3 : Kp b1 b2 W1 W3 := R2.out.2.trans (Kp.of_below hb3)
      have hnext := filter_snoc (f := isFresh h life) hp
      by_cases hf : isFresh h life p = true
      · rw [if_pos hf] at hnext
        rw [show freshOf p.t h life = true from hf]
        obtain ⟨fn, tmps, assign, body, hy, hR⟩ := HY.out _ p W3 J3 hlen
        have HN := Lib.hid (And.intro hnext k3)
        clear hnext k3 J3 hb3 gX c1 c2 R2 x0 x1 x2 x3
        gi_wp2_with fail
        refine ⟨wide_depth, hR.mono ?_⟩
        rintro e W4 (⟨rfl, hJ4, hk4⟩ | ⟨rfl, hJx4⟩)
        · gi_wp2
          go_roundw
          case rel => exact ⟨k + 1, by omega, by go_num, Lib.hid ⟨by rw [HN.out.1]; exact hJ4, HN.out.2.trans hk4⟩⟩
          case measure => simp [intOf]; omega
        · gi_wp2
          refine bodyPost_ret (results_none rfl _ _ _) rfl ?_
          exact ⟨⟨_, rfl⟩, .inr ⟨_, trivial, hJx4⟩⟩
      · rw [if_neg hf, List.append_nil] at hnext
        rw [show freshOf p.t h life = false by simpa [isFresh] using hf]
        have HN := Lib.hid (And.intro hnext (And.intro J3 k3))
        clear hnext k3 J3 hb3 gX c1 c2 R2 x0 x1 x2 x3
        gi_wp2_with fail
        refine ⟨fun _ h => (by cases h), ?_⟩
        gi_wp2
        go_roundw
        case rel => exact ⟨k + 1, by omega, by go_num, Lib.hid ⟨by rw [HN.out.1]; exact HN.out.2.1, HN.out.2.2⟩⟩
        case measure => simp [intOf]; omega
    · obtain rfl : k = L.length := by omega
      gi_wp2
      go_end0
      refine ⟨⟨_, rfl⟩, .inl ⟨_, rfl, ?_⟩⟩
      have := R.out.1
      rwa [List.take_length] at this

set_option maxRecDepth 100000 in
set_option maxHeartbeats 2000000 in
theorem iter_nil (n l B : Nat) (J : List Sm → World → Prop) (W : World) (B0 : Boxed W B 41 (.pointer none)) (h0 : J [] W) :
    CallsIn Fence.wide n Try.prog 38 #[.func (.yield l) #[] #[], .pointer (some ⟨B, 0, none⟩), .pointer (some ⟨B + 1, 0, none⟩), .pointer (some ⟨B + 2, 0, none⟩)] W fun e W' => (∃ v, e = .returned v) ∧ J [] W' := by
  have c0 := B0.cell
  clear B0
  refine callsIn_of_wp Try.func38 rfl trivial ?_ rfl
  simp only [Try.ntmps38, List.size_toArray, List.length_cons, List.length_nil, Nat.reduceAdd, Nat.reduceSub, Array.replicate_succ, Array.replicate_zero, List.push_toArray, List.append_toArray, List.nil_append, List.cons_append]
  gi_wp2_with fail
  refine ⟨trivial, wide_depth, callsIn_wide.2 ((sall_nil W).mono ?_)⟩
  rintro e W1 ⟨rfl, rfl⟩
  gi_wp2_with fail
  gi_loopw [10] (fun i wr => i = .int .i64 0 ∧ J [] wr) (fun _ _ => 0)
  case atStart => exact ⟨rfl, h0⟩
  case round =>
    obtain ⟨rfl, hJs⟩ := hrel
    gi_wp2
    go_end0
    exact ⟨⟨_, rfl⟩, hJs⟩

/-- A store, or none, and what it keeps. -/
def Src (W : World) (P : Option Addr) (L : List Sm) : Prop := (P = none ∧ L = []) ∨ ∃ base sb c, P = some ⟨sb, 0, none⟩ ∧ St W base sb c L
theorem Src.below {W W' : World} {P : Option Addr} {L : List Sm} (h : Src W P L) (hb : Below W.heap.size W W') : Src W' P L := by
  rcases h with h | ⟨base, sb, c, e, h⟩
  · exact .inl h
  · exact .inr ⟨base, sb, c, e, h.below hb⟩
theorem iter_stops (n b1 b2 B : Nat) (h life : Int) (P : Option Addr) (L : List Sm) (w : World) (hh1 : -9223372036854775808 ≤ h) (hh2 : h ≤ 9223372036854775807) (hL : ∀ p ∈ L, p.In)
    (B0 : Boxed w B 41 (.pointer P)) (B1 : Boxed w (B + 1) 2 (.int .i64 h)) (B2 : Boxed w (B + 2) 2 (.int .i64 life)) (n1 : b1 < B) (n2 : b2 < B) (hS : Src w P L) :
    SeqStopsK Fence.wide n Try.prog 38 #[.pointer (some ⟨B, 0, none⟩), .pointer (some ⟨B + 1, 0, none⟩), .pointer (some ⟨B + 2, 0, none⟩)] (fun x : Sm => #[x.val]) (Kp b1 b2) (fun ys => ys = L.filter (isFresh h life)) (fun _ => True) 9 w := fun l J Jx W hW hJ _ hY h0 => by
  have k0 := (hW.block _ B0.lt).trans B0
  have k1 := (hW.block _ B1.lt).trans B1
  have k2 := (hW.block _ B2.lt).trans B2
  rcases hS.below hW with ⟨rfl, rfl⟩ | ⟨base, sb, c, rfl, hS1⟩
  · refine (iter_nil n l B J W k0 h0).mono ?_
    rintro e W' ⟨h1, h2⟩
    exact ⟨h1, .inl ⟨[], rfl, h2⟩⟩
  · exact iter_any n l b1 b2 B h life L J Jx W hh1 hh2 hL hJ hY k0 k1 k2 n1 n2 hS1 h0
end Go.Proofs.Ytcmmhgalnfleoaa
