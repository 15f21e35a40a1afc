/- RingActs' walk. -/
import Derived.Test.YtpmmhnojofacpaaDoc
import Derived.Test.YtpmmhnojofacpaaOpen
import Derived.Deep.RegionHeld3
import Derived.Deep.CutBlock
import Derived.Deep.DeepCutAuto
namespace Go.Proofs.Ytpmmhnojofacpaa
open Go.RowKit

theorem block_ne {w : World} {g g' : Nat} {cs cs' : Array Value} {t t' : TypeId} {fr fr' : Nat × Nat} (h : w.heap[g]? = some (.cells cs t fr)) (h' : w.heap[g']? = some (.cells cs' t' fr')) (hne : t ≠ t') : g ≠ g' := fun e => by
  subst e
  rw [h] at h'
  injection h' with h'
  injection h' with _ h' _
  exact hne h'
/-- A ring and the document's, side by side. -/
structure Side (w : World) (b1 b2 m c c' : Nat) (l l' : List ByteArray) (wi : World) (v1 v2 : Value) : Prop where
  r : Rg_str wi w.heap.size b1 m c (min l.length m) v1 (strs (endOf m l))
  d : Doc wi w.heap.size b2 m c' v2 l'
  nv : ∀ p, v1.ownBlock = some p → v2.ownBlock ≠ some p
  bel : Below w.heap.size w wi
section
variable {w wi wj : World} {b1 b2 m c c' : Nat} {l l' : List ByteArray} {v1 v2 v' : Value} {x : ByteArray}
theorem Side.below (s : Side w b1 b2 m c c' l l' wi v1 v2) (h : Below wi.heap.size wi wj) : Side w b1 b2 m c c' l l' wj v1 v2 :=
  ⟨s.r.below h (Nat.le_refl _), s.d.below h (Nat.le_refl _), s.nv, bel_trans s.bel h⟩
theorem Side.ne (s : Side w b1 b2 m c c' l l' wi v1 v2) : b1 ≠ b2 := block_ne s.r.blk s.d.blk (by decide)
theorem Side.n1 (s : Side w b1 b2 m c c' l l' wi v1 v2) : v1.ownBlock ≠ some b2 := fun e => by
  obtain ⟨_, _, cur, hg⟩ := own_lt s.r.row e
  exact block_ne hg s.d.blk (by decide) rfl
theorem Side.n2 (s : Side w b1 b2 m c c' l l' wi v1 v2) : v2.ownBlock ≠ some b1 := fun e => by
  obtain ⟨_, _, cur, hg⟩ := own_lt s.d.row e
  exact block_ne hg s.r.blk (by decide) rfl
/-- The document's ring was written. -/
theorem Side.wrote (s : Side w b1 b2 m c c' l l' wi v1 v2) (t : Two b2 none wi wj) {c2 : Nat} {l2 : List ByteArray} (hd : Doc wj w.heap.size b2 m c2 v' l2) (hv : ∀ p, v'.ownBlock = some p → wi.heap.size ≤ p) : Side w b1 b2 m c c2 l l2 wj v1 v' :=
  ⟨s.r.two t s.ne (by simp) s.n1 (fun _ _ => by simp), hd, fun p hp hq => by have := hv p hq; have := (own_lt s.r.row hp).2.1; omega, s.bel.trans (t.below s.bel.size s.d.own (by simp))⟩
/-- The ring was written. -/
theorem Side.turned (s : Side w b1 b2 m c c' l l' wi v1 v2) {r : Option Nat} (t : Two b1 r wi wj) (hr : r = none ∨ r = v1.ownBlock) {c2 : Nat} {l2 : List ByteArray} (hg : Rg_str wj w.heap.size b1 m c2 (min l2.length m) v' (strs (endOf m l2))) (hv : ∀ p, v'.ownBlock = some p → v1.ownBlock = some p ∨ wi.heap.size ≤ p) : Side w b1 b2 m c2 c' l2 l' wj v' v2 := by
  have hr2 : r ≠ some b2 := by rcases hr with rfl | rfl; simp; exact s.n1
  have hr3 : ∀ p, v2.ownBlock = some p → r ≠ some p := by
    intro p hp
    rcases hr with rfl | rfl
    · simp
    · intro e; exact s.nv p e hp
  refine ⟨hg, ⟨(t.block b2 s.d.lt s.ne.symm (fun e => hr2 e.symm)).trans s.d.blk, own_kept s.d.row fun p hp hl => t.block p hl (fun e => s.n2 (by rw [hp, e])) (fun e => hr3 p hp e.symm), s.d.own, s.d.nil⟩, fun p hp hq => ?_, ?_⟩
  · rcases hv p hp with h | h
    · exact s.nv p h hq
    · have := (own_lt s.d.row hq).2.1; omega
  · refine s.bel.trans (t.below s.bel.size s.r.own fun p hp => ?_)
    rcases hr with rfl | rfl
    · cases hp
    · exact (own_lt s.r.row hp).1
theorem Side.added (h1 : 1 ≤ m) (s : Side w b1 b2 m c c' l l' wi v1 v2) (a : Added_str wi wj w.heap.size b1 m c (min l.length m) v1 (strs (endOf m l)) [.string x] v') : Side w b1 b2 m (c + 1) c' (l ++ [x]) l' wj v' v2 := by
  have hr := a.ring
  rw [show pushed m (min l.length m) 1 (strs (endOf m l)) [.string x] = strs (endOf m (l ++ [x])) from pushed_end h1 Value.string l x, show min (min l.length m + 1) m = min (l.length + 1) m by omega] at hr
  refine s.turned a.two (.inr rfl) ?_ a.at'
  rw [List.length_append, List.length_singleton]
  exact hr
theorem Side.last (h1 : 1 ≤ m) (h2 : m ≤ 64) (s : Side w b1 b2 m c c' (l ++ [x]) l' wi v1 v2) : Calls Try.prog 15 #[.pointer (some ⟨b1, 0, none⟩)] wi fun e w' => e = .returned (.tuple #[.string x, .bool true]) ∧ Below wi.heap.size wi w' := by
  have hr := s.r
  have hl := endOf_last h1 l x
  rw [List.length_append, List.length_singleton] at hr
  obtain ⟨k, hk⟩ : ∃ k, min (l.length + 1) m = k + 1 := ⟨min (l.length + 1) m - 1, by omega⟩
  rw [hk] at hr hl
  exact last_str hr h2 (by unfold strs; rw [List.getElem?_map, show k = k + 1 - 1 from rfl, hl]; rfl)
end
/-- Both rings, and the document's list that lies there. -/
structure Look (w : World) (b1 b2 m c : Nat) (l : List ByteArray) (A : Option Addr) (v1 v2 : Value) (wi : World) : Prop where
  side : Side w b1 b2 m c c l l wi v1 v2
  str : StrIn wi A (endOf m l)
section
variable {w wi wj : World} {b1 b2 m c : Nat} {l : List ByteArray} {A : Option Addr} {v1 v2 : Value}
theorem Look.below (s : Look w b1 b2 m c l A v1 v2 wi) (h : Below wi.heap.size wi wj) : Look w b1 b2 m c l A v1 v2 wj := ⟨s.side.below h, s.str.below h⟩
theorem Look.drew (s : Look w b1 b2 m c l A v1 v2 wi) : Look w b1 b2 m c l A v1 v2 wi.drew := s.below ⟨rfl, rfl, rfl, Nat.le_refl _, fun _ _ => rfl⟩
theorem Look.cell (s : Look w b1 b2 m c l A v1 v2 wi) : wi.cell? ⟨b2, 2, none⟩ = some (.int .i64 (c : Int)) := s.side.d.facts.2.2
theorem look17 {k : Nat} (hk : min l.length m = k) (h2 : m ≤ 64) (s : Look w b1 b2 m c l A v1 v2 wi) : Calls Try.prog 17 #[.pointer (some ⟨b1, 0, none⟩)] wi fun e w' => ∃ H, e = .returned (.slice (some ⟨H, 0, none⟩) k k) ∧ Look w b1 b2 m c l A v1 v2 w' ∧ StrIn w' (some ⟨H, 0, none⟩) (endOf m l) := by
  subst hk
  refine (all_str s.side.r h2).mono ?_
  rintro e w' ⟨rfl, ho, hb⟩
  exact ⟨_, rfl, s.below hb, strIn_own ho⟩
theorem look16 {k cp H : Nat} (hk : min l.length m = k) (h2 : m ≤ 64) (h3 : k ≤ cp) (h4 : cp ≤ maxLen) (s : Look w b1 b2 m c l A v1 v2 wi) (t : StrIn wi (some ⟨H, 0, none⟩) (endOf m l)) : Calls Try.prog 16 #[.slice (some ⟨H, 0, none⟩) k k, .slice A k cp] wi fun e w' => e = .returned (.bool true) ∧ Look w b1 b2 m c l A v1 v2 w' := by
  subst hk
  refine (same_any _ _ _ _ cp (endOf m l) wi (length_endOf m l) (by unfold maxLen; omega) h3 h4 t s.str).mono ?_
  rintro e w' ⟨rfl, hb⟩
  exact ⟨rfl, s.below hb⟩
theorem look18 {k : Nat} (hk : min l.length m = k) (s : Look w b1 b2 m c l A v1 v2 wi) : Calls Try.prog 18 #[.pointer (some ⟨b1, 0, none⟩)] wi fun e w' => e = .returned (.int .i64 (k : Int)) ∧ Look w b1 b2 m c l A v1 v2 w' := by
  subst hk
  refine (len_str s.side.r).mono ?_
  rintro e w' ⟨rfl, rfl⟩
  exact ⟨rfl, s⟩
theorem look19 (s : Look w b1 b2 m c l A v1 v2 wi) : Calls Try.prog 19 #[.pointer (some ⟨b1, 0, none⟩)] wi fun e w' => e = .returned (.int .i64 (c : Int)) ∧ Look w b1 b2 m c l A v1 v2 w' := by
  refine (count_str s.side.r).mono ?_
  rintro e w' ⟨rfl, rfl⟩
  exact ⟨rfl, s⟩
end

set_option maxRecDepth 100000 in
set_option maxHeartbeats 8000000 in
theorem walk_acts (n : Int) (A : Option Addr) (len cap : Nat) (w : World) (hz : ActsIn w A len cap) :
    Calls Try.prog 3 #[.int .i64 n, .slice A len cap] w fun e w' => e = .returned (.bool true) ∧ Below w.heap.size w w' := by
  have KM := Lib.hid (fun w => most_any n w)
  obtain ⟨m1, m2⟩ := mostOf_in n
  generalize mostOf n = m at *
  have l1 := hz.1
  have l2 : cap ≤ 9223372036854775807 := by have := hz.2.1; unfold maxLen at this; omega
  have Z := Lib.hid hz
  clear hz
  go_enter Try.func3, Try.ntmps3
  go_wp2_with fail
  refine (KM.out _).mono ?_
  rintro e w0 ⟨rfl, rfl⟩
  go_wp2_with fail
  refine (new_str m _ m1 m2).mono ?_
  rintro e w1 ⟨rfl, hr1, hb1⟩
  obtain ⟨b1, hb⟩ : ∃ b, b = w.heap.size := ⟨_, rfl⟩
  rw [← hb]
  have L1 := Lib.hid (And.intro hr1 hb1)
  rw [show Rg_str w1 w.heap.size w.heap.size = Rg_str w1 w.heap.size b1 by rw [hb]] at L1
  clear hr1 hb1 hb
  go_wp2_with fail
  refine (alive_any _).mono ?_
  rintro e w2 ⟨rfl, hb2⟩
  have L2 := Lib.hid (And.intro (L1.out.1.below hb2 (Nat.le_refl _)) (bel_trans L1.out.2 hb2))
  clear hb2 L1
  by_cases q1 : 300 < len
  · go_wp2_with fail
    refine (alive_any _).mono ?_
    rintro e w3 ⟨rfl, hb3⟩
    have L3 := Lib.hid (bel_trans L2.out.2 hb3)
    clear hb3 L2
    go_wp2
    go_ret
    exact ⟨rfl, L3.out⟩
  go_wp2_with fail
  refine (KM.out _).mono ?_
  rintro e w3 ⟨rfl, rfl⟩
  clear KM
  obtain ⟨W, hW⟩ : ∃ W, W = w2.alloc (.cells #[.slice none 0 0, .int .i64 (m : Int), .int .i64 0] 32) := ⟨_, rfl⟩
  obtain ⟨b2, hb⟩ : ∃ b, b = w2.heap.size := ⟨_, rfl⟩
  have hbW : Below w2.heap.size w2 W := by rw [hW]; exact (Below.refl _ _).alloc (Nat.le_refl _) _
  have S0 : Side w b1 b2 m 0 0 [] [] W (.slice none 0 0) (.slice none 0 0) := by
    refine ⟨?_, ⟨?_, World.ownsRow_nil _ _ _ _, ?_, fun _ => rfl⟩, fun p hp => by simp [Value.ownBlock] at hp, bel_trans L2.out.2 hbW⟩
    · simpa [endOf_nil, strs] using L2.out.1.below hbW (Nat.le_refl _)
    · rw [hW, hb]; exact heap_alloc_new w2 _
    · have := L2.out.2.size; omega
  have L3 := Lib.hid S0
  clear S0 hbW L2
  go_wp2_with fail
  rw [← hW, ← hb]
  clear hW hb
  go_loopw [49] (fun v49 wr => ∃ (i : Nat), i ≤ len ∧ v49 = .int .i64 (i : Int) ∧ Hid (∃ v1 v2 c l, c ≤ i ∧ l.length ≤ i ∧ Side w b1 b2 m c c l l wr v1 v2)) (fun s _ => len - (intOf s).toNat)
  case atStart => exact ⟨0, Nat.zero_le _, rfl, Lib.hid ⟨_, _, 0, [], Nat.le_refl _, Nat.le_refl _, L3.out⟩⟩
  case round =>
    clear L3
    obtain ⟨i, hi, rfl, RW⟩ := hrel
    by_cases hiN : i < len
    · obtain ⟨v1, v2, c, l, hci, hli, RV⟩ := RW.out
      obtain ⟨g, o, rfl, hg, hcs⟩ := Z.out.2.2 (by omega)
      obtain ⟨k, x, hk, hx⟩ := hcs i hiN
      have ck : wr.cell? ⟨g, o + i * 2, none⟩ = some (.int .i64 k) := (RV.bel.cell (p := ⟨g, o + i * 2, none⟩) hg).trans hk
      have cx : wr.cell? ⟨g, o + i * 2 + 1, none⟩ = some (.string x) := (RV.bel.cell (p := ⟨g, o + i * 2 + 1, none⟩) hg).trans hx
      obtain ⟨W, hW⟩ : ∃ W, W = wr.alloc (.cells #[.int .i64 k, .string x] 34) := ⟨_, rfl⟩
      have hbW : Below wr.heap.size wr W := by rw [hW]; exact (Below.refl _ _).alloc (Nat.le_refl _) _
      obtain ⟨P, hP⟩ : ∃ P, P = wr.heap.size := ⟨_, rfl⟩
      have gP : W.heap[P]? = some (.cells #[.int .i64 k, .string x] 34 (0, 0)) := by rw [hW, hP]; exact heap_alloc_new wr _
      have R0 := Lib.hid (And.intro (RV.below hbW) gP)
      have HW := Lib.hid (And.intro hW hP)
      clear hg hcs hk hx hbW gP hW hP RV RW
      by_cases hk0 : k = 0
      · subst hk0
        go_wp2_with fail
        rw [← HW.out.1, ← HW.out.2]
        clear ck cx HW
        refine (radd_any x R0.out.1.d (by omega) (by omega)).mono ?_
        rintro e w4 ⟨rfl, v3, hd4, t4, hv4⟩
        have gP4 : w4.heap[P]? = some (.cells #[.int .i64 0, .string x] 34 (0, 0)) := (t4.block P (heap_lt R0.out.2) (block_ne R0.out.2 R0.out.1.d.blk (by decide)) (by simp)).trans R0.out.2
        have cx4 : w4.cell? ⟨P, 1, none⟩ = some (.string x) := by rw [cell_of_row _ _ _ _ _ _ gP4]; rfl
        have R4 := Lib.hid (R0.out.1.wrote t4 hd4 hv4)
        clear hd4 t4 hv4 gP4 R0
        go_wp2_with fail
        refine (add_str x R4.out.r m1 m2 (by omega)).mono ?_
        rintro e w5 ⟨rfl, v4, a5⟩
        have R5 := Lib.hid (R4.out.added m1 a5)
        have hll : (l ++ [x]).length = l.length + 1 := by simp
        obtain ⟨k, hk⟩ : ∃ k, min (l ++ [x]).length m = k + 1 := ⟨min (l ++ [x]).length m - 1, by omega⟩
        have k64 : k < 64 := by omega
        have KA := Lib.hid (rall_any R5.out.d m1 m2 (by omega))
        have KL := Lib.hid (fun wi (s : Side w b1 b2 m (c + 1) (c + 1) (l ++ [x]) (l ++ [x]) wi v4 v3) => s.last m1 m2)
        have hlast : (endOf m (l ++ [x]))[k]? = some x := by have := endOf_last m1 l x; rw [← hll, hk] at this; exact this
        have hlen : (endOf m (l ++ [x])).length = k + 1 := by rw [length_endOf]; exact hk
        have K17 := Lib.hid (fun A wi (s : Look w b1 b2 m (c + 1) (l ++ [x]) A v4 v3 wi) => look17 hk m2 s)
        have K16 := Lib.hid (fun A cp H wi h3 h4 (s : Look w b1 b2 m (c + 1) (l ++ [x]) A v4 v3 wi) t => look16 (cp := cp) (H := H) hk m2 h3 h4 s t)
        have K18 := Lib.hid (fun A wi (s : Look w b1 b2 m (c + 1) (l ++ [x]) A v4 v3 wi) => look18 hk s)
        have K19 := Lib.hid (fun A wi (s : Look w b1 b2 m (c + 1) (l ++ [x]) A v4 v3 wi) => look19 s)
        rw [hk] at KA
        have HE := Lib.hid (And.intro hlast (And.intro hlen (show (l ++ [x]).length ≤ i + 1 by omega)))
        generalize hL : l ++ [x] = L at *
        generalize hC : c + 1 = C at *
        have hCi : C ≤ i + 1 := by omega
        clear a5 R4 cx4 hll hk hlast hlen hL hli hC hci
        go_wp2_with fail
        refine KA.out.mono ?_
        rintro e w6 ⟨A, cp, rfl, hc1, hc2, hS6, hb6⟩
        have R6 := Lib.hid (And.intro (R5.out.below hb6) hS6)
        clear R5 hS6 hb6 KA
        go_wp2_with fail
        refine (KL.out _ R6.out.1).mono ?_
        rintro e w7 ⟨rfl, hb7⟩
        have M0 := Lib.hid (show Look w b1 b2 m C L A v4 v3 w7 from ⟨R6.out.1.below hb7, R6.out.2.below hb7⟩)
        clear R6 hb7 KL
        go_wp2_with fail
        go_region_held3 (fun w' => w'.cell? ⟨b2, 2, none⟩ = some (.int .i64 (C : Int)))
          (first | exact M4.out.cell | exact M3.out.cell | exact M2.out.cell | exact M1.out.1.cell | exact M0.out.drew.cell)
          (first
            | (go_at_call 19; refine (K19.out _ _ M3.out).mono ?_; rintro e z4 ⟨rfl, h4⟩; have M4 := Lib.hid h4; clear h4)
            | (go_at_call 18; refine (K18.out _ _ M2.out).mono ?_; rintro e z3 ⟨rfl, h3⟩; have M3 := Lib.hid h3; clear h3)
            | (go_at_call 16; refine (K16.out _ _ _ _ hc1 hc2 M1.out.1 M1.out.2).mono ?_; rintro e z2 ⟨rfl, h2⟩; have M2 := Lib.hid h2; clear h2)
            | (go_at_call 17; refine (K17.out _ _ M0.out.drew).mono ?_; rintro e z1 ⟨H, rfl, h1, h1'⟩; have M1 := Lib.hid (And.intro h1 h1'); clear h1 h1'))
        obtain ⟨ga, oa, rfl, hga, hca⟩ := M4.out.str (by rw [HE.out.2.1]; omega)
        have cz : z4.cell? ⟨ga, oa + k, none⟩ = some (.string x) := hca k x HE.out.1
        have k1 : (k : Int) + 1 - 1 = (k : Int) := by omega
        clear hga hca
        go_wp2
        refine ⟨⟨i + 1, by omega, by go_num, Lib.hid ⟨_, _, C, L, hCi, HE.out.2.2, M4.out.side⟩⟩, ?_⟩
        simp [intOf]; omega
      · have e0 : (wr.alloc (.cells #[.int .i64 k, .string x] 34)).cell? ⟨b2, 0, none⟩ = some v2 := by rw [← HW.out.1]; exact R0.out.1.d.facts.1
        have e1 : (wr.alloc (.cells #[.int .i64 k, .string x] 34)).frozen? ⟨b2, 0, none⟩ = false := by rw [← HW.out.1]; exact frozen_row R0.out.1.d.blk 0
        go_wp2_with fail
        rw [← HW.out.1, ← HW.out.2]
        clear ck cx HW e0 e1
        have R4 : Side w b1 b2 m c c l [] (W.setCell ⟨b2, 0, none⟩ (.slice none 0 0)) v1 (.slice none 0 0) :=
          R0.out.1.wrote ((Two.of_below (Below.refl _ _)).setCell 0 _) ⟨heap_setCell_same W b2 0 (.slice none 0 0) _ _ _ R0.out.1.d.blk, World.ownsRow_nil _ _ _ _, R0.out.1.d.own, fun _ => rfl⟩ (fun p hp => by simp [Value.ownBlock] at hp)
        refine (clear_str R4.r).mono ?_
        rintro e w5 ⟨rfl, hr5, t5⟩
        have R5 := Lib.hid (R4.turned t5 (.inl rfl) (c2 := c) (l2 := []) (by simpa [endOf_nil, strs] using hr5) (fun p hp => by simp [Value.ownBlock] at hp))
        clear hr5 t5 R4 R0
        have KA := Lib.hid (rall_any R5.out.d m1 m2 (by simp))
        have KL := Lib.hid (fun wi (s : Side w b1 b2 m c c [] [] wi (.slice none 0 0) (.slice none 0 0)) => last_none_str (by simpa using s.r))
        have hk : min ([] : List ByteArray).length m = 0 := by simp
        have K17 := Lib.hid (fun A wi (s : Look w b1 b2 m c [] A (.slice none 0 0) (.slice none 0 0) wi) => look17 hk m2 s)
        have K16 := Lib.hid (fun A cp H wi h3 h4 (s : Look w b1 b2 m c [] A (.slice none 0 0) (.slice none 0 0) wi) t => look16 (cp := cp) (H := H) hk m2 h3 h4 s t)
        have K18 := Lib.hid (fun A wi (s : Look w b1 b2 m c [] A (.slice none 0 0) (.slice none 0 0) wi) => look18 hk s)
        have K19 := Lib.hid (fun A wi (s : Look w b1 b2 m c [] A (.slice none 0 0) (.slice none 0 0) wi) => look19 s)
        rw [hk] at KA
        clear hk hli
        go_wp2_with fail
        refine KA.out.mono ?_
        rintro e w6 ⟨A, cp, rfl, hc1, hc2, hS6, hb6⟩
        have R6 := Lib.hid (And.intro (R5.out.below hb6) hS6)
        clear R5 hS6 hb6 KA
        go_wp2_with fail
        refine (KL.out _ R6.out.1).mono ?_
        rintro e w7 ⟨rfl, hb7⟩
        have M0 := Lib.hid (show Look w b1 b2 m c [] A (.slice none 0 0) (.slice none 0 0) w7 from ⟨R6.out.1.below hb7, R6.out.2.below hb7⟩)
        clear R6 hb7 KL
        go_wp2_with fail
        go_region_held3 (fun w' => w'.cell? ⟨b2, 2, none⟩ = some (.int .i64 (c : Int)))
          (first | exact M4.out.cell | exact M3.out.cell | exact M2.out.cell | exact M1.out.1.cell | exact M0.out.drew.cell)
          (first
            | (go_at_call 19; refine (K19.out _ _ M3.out).mono ?_; rintro e z4 ⟨rfl, h4⟩; have M4 := Lib.hid h4; clear h4)
            | (go_at_call 18; refine (K18.out _ _ M2.out).mono ?_; rintro e z3 ⟨rfl, h3⟩; have M3 := Lib.hid h3; clear h3)
            | (go_at_call 16; refine (K16.out _ _ _ _ hc1 hc2 M1.out.1 M1.out.2).mono ?_; rintro e z2 ⟨rfl, h2⟩; have M2 := Lib.hid h2; clear h2)
            | (go_at_call 17; refine (K17.out _ _ M0.out.drew).mono ?_; rintro e z1 ⟨H, rfl, h1, h1'⟩; have M1 := Lib.hid (And.intro h1 h1'); clear h1 h1'))
        go_wp2
        refine ⟨⟨i + 1, by omega, by go_num, Lib.hid ⟨_, _, c, [], by omega, by simp, M4.out.side⟩⟩, ?_⟩
        simp [intOf]; omega
    · go_wp2
      go_ret
      obtain ⟨v1, v2, c, l, hci, hli, RV⟩ := RW.out
      exact ⟨rfl, RV.bel⟩
end Go.Proofs.Ytpmmhnojofacpaa
