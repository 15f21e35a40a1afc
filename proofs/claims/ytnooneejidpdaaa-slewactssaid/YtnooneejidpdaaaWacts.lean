/- SlewActs' walk (laid by genacts.py: the rest of a round stands twice). -/
import Derived.Test.YtnooneejidpdaaaSt
import Derived.Test.YtnooneejidpdaaaRef
import Derived.Test.YtnooneejidpdaaaOpen
import Derived.Deep.CutBlock
import Derived.Deep.DeepCutAuto
import Derived.Deep.RegionHeld3
namespace Go.Proofs.Ytnooneejidpdaaa
open Go.RowKit

/-- An act of a slice that came in, in a world that came behind. -/
theorem ActsIn.at_ {w wr : World} {A : Option Addr} {len cap t : Nat} (h : ActsIn w A len cap) (ht : t < len) (hb : Below w.heap.size w wr) :
    ∃ g o x y z, A = some ⟨g, o, none⟩ ∧ (Lit.int .i64 x).wf = true ∧ (Lit.int .i64 y).wf = true ∧ (Lit.int .i64 z).wf = true ∧ wr.cell? ⟨g, o + t * 3, none⟩ = some (.int .i64 x) ∧ wr.cell? ⟨g, o + t * 3 + 1, none⟩ = some (.int .i64 y) ∧ wr.cell? ⟨g, o + t * 3 + 2, none⟩ = some (.int .i64 z) := by
  obtain ⟨g, o, rfl, hg, hc⟩ := h.2.2 (by omega)
  obtain ⟨x, y, z, hx, hy, hz, c0, c1, c2⟩ := hc t ht
  exact ⟨g, o, x, y, z, rfl, hx, hy, hz, (hb.cell (p := ⟨g, _, none⟩) hg).trans c0, (hb.cell (p := ⟨g, _, none⟩) hg).trans c1, (hb.cell (p := ⟨g, _, none⟩) hg).trans c2⟩

/-- Both clocks in their blocks, behind what was there in w. -/
structure Two (w : World) (g g2 : Nat) (k m : Ck) (wi : World) : Prop where
  ck : Clk 64 wi g k
  cm : Clk 42 wi g2 m
  bel : Below w.heap.size w wi
  h1 : w.heap.size ≤ g
  h2 : w.heap.size ≤ g2
  ne : g ≠ g2
theorem Two.below {w wi wj : World} {g g2 : Nat} {k m : Ck} (t : Two w g g2 k m wi) (h : Below wi.heap.size wi wj) : Two w g g2 k m wj := ⟨t.ck.below h, t.cm.below h, bel_trans t.bel h, t.h1, t.h2, t.ne⟩
/-- The same, with an act in a block of its own. -/
structure Three (w : World) (g g2 : Nat) (k m : Ck) (q : Nat) (a x y : Int) (wi : World) : Prop where
  two : Two w g g2 k m wi
  act : wi.heap[q]? = some (.cells #[.int .i64 a, .int .i64 x, .int .i64 y] 33 (0, 0))
  n1 : q ≠ g
  n2 : q ≠ g2
theorem Three.below {w wi wj : World} {g g2 q : Nat} {k m : Ck} {a x y : Int} (t : Three w g g2 k m q a x y wi) (h : Below wi.heap.size wi wj) : Three w g g2 k m q a x y wj := ⟨t.two.below h, Below.keeps h t.act, t.n1, t.n2⟩
theorem Three.drew {w wi : World} {g g2 q : Nat} {k m : Ck} {a x y : Int} (t : Three w g g2 k m q a x y wi) : Three w g g2 k m q a x y wi.drew := ⟨⟨t.two.ck, t.two.cm, t.two.bel.drew, t.two.h1, t.two.h2, t.two.ne⟩, t.act, t.n1, t.n2⟩
theorem Three.c1 {w wi : World} {g g2 q : Nat} {k m : Ck} {a x y : Int} (t : Three w g g2 k m q a x y wi) : wi.cell? ⟨q, 1, none⟩ = some (.int .i64 x) := cell_of_row _ _ 1 _ _ _ t.act
theorem Three.c2 {w wi : World} {g g2 q : Nat} {k m : Ck} {a x y : Int} (t : Three w g g2 k m q a x y wi) : wi.cell? ⟨q, 2, none⟩ = some (.int .i64 y) := cell_of_row _ _ 2 _ _ _ t.act
theorem Two.act {w wr : World} {g g2 : Nat} {k m : Ck} (t : Two w g g2 k m wr) (a x y : Int) : Three w g g2 k m wr.heap.size a x y (wr.alloc (.cells #[.int .i64 a, .int .i64 x, .int .i64 y] 33)) :=
  ⟨t.below ((Below.refl _ _).alloc (Nat.le_refl _) _), heap_alloc_new wr _, by have := t.ck.lt; omega, by have := t.cm.lt; omega⟩
theorem three_adj {w wi : World} {g g2 q : Nat} {k m : Ck} {a x y : Int} (t : Three w g g2 k m q a x y wi) (o : k.Ok) :
    Calls Try.prog 13 #[.pointer (some ⟨g, 0, none⟩), .int .i64 x, .int .i64 y] wi fun e w' => e = .returned (.int .i64 (k.err x)) ∧ Three w g g2 (k.put x y) m q a x y w' :=
  (adjust_any g k x wi t.two.ck o y).mono fun _ _ ⟨e, hc, hb⟩ => ⟨e, ⟨⟨hc, hb.clk t.two.cm (Ne.symm t.two.ne), bel_but t.two.bel hb t.two.h1, t.two.h1, t.two.h2, t.two.ne⟩, hb.keeps t.act t.n1, t.n1, t.n2⟩⟩
theorem three_radj {w wi : World} {g g2 q : Nat} {k m : Ck} {a x y : Int} (t : Three w g g2 k m q a x y wi) (o : m.Ok) :
    Calls Try.prog 14 #[.pointer (some ⟨g2, 0, none⟩), .int .i64 x, .int .i64 y] wi fun e w' => e = .returned (.int .i64 (m.err x)) ∧ Three w g g2 k (m.put x y) q a x y w' :=
  (radjust_any g2 m x y wi t.two.cm o).mono fun _ _ ⟨e, hc, hb⟩ => ⟨e, ⟨⟨hb.clk t.two.ck t.two.ne, hc, bel_but t.two.bel hb t.two.h2, t.two.h1, t.two.h2, t.two.ne⟩, hb.keeps t.act t.n2, t.n1, t.n2⟩⟩

set_option maxRecDepth 100000 in
set_option maxHeartbeats 8000000 in
theorem walk_acts (n0 n1 n : Int) (A : Option Addr) (len cap : Nat) (w : World) (hz : ActsIn w A len cap) : Calls Try.prog 3 #[.agg #[.int .i64 n0, .int .i64 n1], .int .i64 n, .slice A len cap] w fun e w' => e = .returned (.bool true) ∧ Below w.heap.size w w' := by
  have KL := Lib.hid (fun w => alive_any w)
  have hlc := hz.1
  have hcm : cap ≤ 9223372036854775807 := by have := hz.2.1; unfold maxLen at this; omega
  have HZ := Lib.hid hz
  clear hz
  by_cases f : Fit n0 n1 n
  · have KN := Lib.hid (fun w => new_ex (w := w) f)
    have KM := Lib.hid (fun w => rnew_ok n0 n1 n w f)
    have O := Lib.hid f.ok
    clear f
    go_enter Try.func3, Try.ntmps3
    go_wp2_with fail
    refine (KN.out _).mono ?_
    rintro e w1 ⟨g, rfl, hg, hc1, hw1⟩
    have hbox : w1.heap[w.heap.size]? = some (.cells #[.int .i64 n0, .int .i64 n1] 22) := Below.keeps hw1 (heap_alloc_new w _)
    have c0 : w1.cell? ⟨w.heap.size, 0, none⟩ = some (.int .i64 n0) := cell_of_row _ _ 0 _ _ _ hbox
    have c1 : w1.cell? ⟨w.heap.size, 1, none⟩ = some (.int .i64 n1) := cell_of_row _ _ 1 _ _ _ hbox
    have L1 := Lib.hid (And.intro hc1 (And.intro (bel_trans ((Below.refl _ _).alloc (Nat.le_refl _) _) hw1) (show w.heap.size + 1 ≤ g by simpa using hg)))
    clear hg hc1 hw1 hbox
    go_wp2_with fail
    refine (KM.out _).mono ?_
    rintro e w2 ⟨rfl, hc2, hw2⟩
    obtain ⟨g2, hg2⟩ : ∃ g2, g2 = w1.heap.size := ⟨_, rfl⟩
    rw [← hg2] at hc2 ⊢
    have L2 := Lib.hid (show Two w g g2 ⟨n, n0, n1, 0, 0⟩ ⟨n, n0, n1, 0, 0⟩ w2 from ⟨L1.out.1.below hw2, hc2, bel_trans L1.out.2.1 hw2, by have := L1.out.2.2; omega, by rw [hg2]; exact L1.out.2.1.size, by have := L1.out.1.lt; omega⟩)
    clear hc2 hw2 L1 c0 c1 hg2 KN KM
    by_cases hn : 300 < len
    · go_wp2_with fail
      refine (KL.out _).mono ?_
      rintro e w3 ⟨rfl, hw3⟩
      have L3 := Lib.hid (bel_trans L2.out.bel hw3)
      clear hw3 L2
      go_wp2
      go_ret
      exact ⟨rfl, L3.out⟩
    · go_wp2_with fail
      go_loopw [61] (fun s wr => ∃ i : Nat, i ≤ len ∧ s = .int .i64 i ∧ ∃ k : Ck, Hid k.Ok ∧ Hid (Two w g g2 k k wr)) (fun s _ => len - (intOf s).toNat)
      case atStart => exact ⟨0, Nat.zero_le _, rfl, _, O, L2⟩
      case round =>
        clear L2 O
        obtain ⟨i, hi, rfl, k, OK, L3⟩ := hrel
        by_cases hiN : i < len
        · obtain ⟨g', o, a, x, y, rfl, hwa, hwx, hwy, ca, cx, cy⟩ := HZ.out.at_ hiN L3.out.bel
          obtain ⟨a1, a2⟩ := bounds_i64 hwa
          obtain ⟨x1, x2⟩ := bounds_i64 hwx
          obtain ⟨y1, y2⟩ := bounds_i64 hwy
          clear hwa hwx hwy
          by_cases ha : a = 1
          · have da : (a == 1) = true := by simp [ha]
            clear ha
            go_wp2_with fail
            obtain ⟨W, hW⟩ : ∃ W, W = wr.alloc (.cells #[.int .i64 a, .int .i64 x, .int .i64 y] 33) := ⟨_, rfl⟩
            obtain ⟨q, hq⟩ : ∃ q, q = wr.heap.size := ⟨_, rfl⟩
            rw [← hW, ← hq]
            have M0 := Lib.hid (show Three w g g2 k k q a x y W from by rw [hW, hq]; exact L3.out.act a x y)
            clear hW hq L3 ca cx cy
            have KA := Lib.hid (fun W (t : Three w g g2 k k q a x y W) => three_adj t OK.out)
            have KB := Lib.hid (fun W (t : Three w g g2 (k.put x y) k q a x y W) => three_radj t OK.out)
            have OP := Lib.hid (OK.out.put x y)
            generalize k.put x y = k' at *
            generalize k.err x = er at *
            go_region_held3 (fun w' => w'.cell? ⟨q, 1, none⟩ = some (.int .i64 x) ∧ w'.cell? ⟨q, 2, none⟩ = some (.int .i64 y))
              (first | exact ⟨M2.out.c1, M2.out.c2⟩ | exact ⟨M1.out.c1, M1.out.c2⟩ | exact ⟨M0.out.drew.c1, M0.out.drew.c2⟩)
              (first
                | (go_at_call 14; refine (KB.out _ M1.out).mono ?_; rintro e z2 ⟨rfl, h2⟩; have M2 := Lib.hid h2; clear h2)
                | (go_at_call 13; refine (KA.out _ M0.out.drew).mono ?_; rintro e z1 ⟨rfl, h1⟩; have M1 := Lib.hid h1; clear h1))
            have K1 := Lib.hid (fun b w hc => read_any b k' x w hc OP.out)
            have K2 := Lib.hid (fun b w hc => left_any b k' x w hc OP.out)
            have K3 := Lib.hid (fun b w hc => slewed_any b k' x w hc OP.out)
            have K4 := Lib.hid (fun b w hc => rat_any b k' x w hc OP.out)
            have K5 := Lib.hid (fun b w hc => base_any b k' w hc)
            generalize rd k' x = v1 at *
            generalize lf k' x = v2 at *
            generalize sl k' x = v3 at *
            generalize (k').err x = v4 at *
            have f1 := M2.out.c1
            go_wp2_with fail
            refine (K1.out _ _ M2.out.two.ck).mono ?_
            rintro e x1 ⟨rfl, hw1⟩
            have L4 := Lib.hid (M2.out.below hw1)
            clear hw1 M2 K1 f1
            have f1 := L4.out.c1
            go_wp2_with fail
            refine (K2.out _ _ L4.out.two.ck).mono ?_
            rintro e x2 ⟨rfl, hw2⟩
            have L5 := Lib.hid (L4.out.below hw2)
            clear hw2 L4 K2 f1
            have f1 := L5.out.c1
            go_wp2_with fail
            refine (K3.out _ _ L5.out.two.ck).mono ?_
            rintro e x3 ⟨rfl, hw3⟩
            have L6 := Lib.hid (L5.out.below hw3)
            clear hw3 L5 K3 f1
            have f1 := L6.out.c1
            go_wp2_with fail
            refine (K4.out _ _ L6.out.two.cm).mono ?_
            rintro e x4 ⟨rfl, hw4⟩
            have L7 := Lib.hid (L6.out.below hw4)
            clear hw4 L6 K4 f1
            have f3 : x4.cell? ⟨g2, 1, none⟩ = some (.int .i64 (k').h) := L7.out.two.cm.facts.2.1
            have K6 := Lib.hid (fun n => Calls.quiet_of_same (n := n) ((K5.out g (x4.drewN n) L7.out.two.ck).mono fun _ _ ⟨a, b⟩ => ⟨a, b.symm⟩))
            clear K5
            generalize hkh : (k').h = v5 at *
            go_wp2_with fail
            go_quiet (first | (go_at_call 19; exact K6.out _))
            go_wp2
            go_roundw
            case rel => exact ⟨i + 1, by omega, by go_num, _, OP, Lib.hid ⟨L7.out.two.ck, L7.out.two.cm, ⟨L7.out.two.bel.os, L7.out.two.bel.tape, L7.out.two.bel.output, L7.out.two.bel.size, L7.out.two.bel.block⟩, L7.out.two.h1, L7.out.two.h2, L7.out.two.ne⟩⟩
            case measure => simp [intOf]; omega
          · have da : (a == 1) = false := by simp [ha]
            clear ha
            go_wp2_with fail
            obtain ⟨W, hW⟩ : ∃ W, W = wr.alloc (.cells #[.int .i64 a, .int .i64 x, .int .i64 y] 33) := ⟨_, rfl⟩
            obtain ⟨q, hq⟩ : ∃ q, q = wr.heap.size := ⟨_, rfl⟩
            rw [← hW, ← hq]
            have M0 := Lib.hid (show Three w g g2 k k q a x y W from by rw [hW, hq]; exact L3.out.act a x y)
            clear hW hq L3 ca cx cy
            have K1 := Lib.hid (fun b w hc => read_any b k x w hc OK.out)
            have K2 := Lib.hid (fun b w hc => left_any b k x w hc OK.out)
            have K3 := Lib.hid (fun b w hc => slewed_any b k x w hc OK.out)
            have K4 := Lib.hid (fun b w hc => rat_any b k x w hc OK.out)
            have K5 := Lib.hid (fun b w hc => base_any b k w hc)
            generalize rd k x = v1 at *
            generalize lf k x = v2 at *
            generalize sl k x = v3 at *
            generalize (k).err x = v4 at *
            refine (K1.out _ _ M0.out.two.ck).mono ?_
            rintro e x1 ⟨rfl, hw1⟩
            have L4 := Lib.hid (M0.out.below hw1)
            clear hw1 M0 K1
            have f1 := L4.out.c1
            go_wp2_with fail
            refine (K2.out _ _ L4.out.two.ck).mono ?_
            rintro e x2 ⟨rfl, hw2⟩
            have L5 := Lib.hid (L4.out.below hw2)
            clear hw2 L4 K2 f1
            have f1 := L5.out.c1
            go_wp2_with fail
            refine (K3.out _ _ L5.out.two.ck).mono ?_
            rintro e x3 ⟨rfl, hw3⟩
            have L6 := Lib.hid (L5.out.below hw3)
            clear hw3 L5 K3 f1
            have f1 := L6.out.c1
            go_wp2_with fail
            refine (K4.out _ _ L6.out.two.cm).mono ?_
            rintro e x4 ⟨rfl, hw4⟩
            have L7 := Lib.hid (L6.out.below hw4)
            clear hw4 L6 K4 f1
            have f3 : x4.cell? ⟨g2, 1, none⟩ = some (.int .i64 (k).h) := L7.out.two.cm.facts.2.1
            have K6 := Lib.hid (fun n => Calls.quiet_of_same (n := n) ((K5.out g (x4.drewN n) L7.out.two.ck).mono fun _ _ ⟨a, b⟩ => ⟨a, b.symm⟩))
            clear K5
            generalize hkh : (k).h = v5 at *
            go_wp2_with fail
            go_quiet (first | (go_at_call 19; exact K6.out _))
            go_wp2
            go_roundw
            case rel => exact ⟨i + 1, by omega, by go_num, _, OK, Lib.hid ⟨L7.out.two.ck, L7.out.two.cm, ⟨L7.out.two.bel.os, L7.out.two.bel.tape, L7.out.two.bel.output, L7.out.two.bel.size, L7.out.two.bel.block⟩, L7.out.two.h1, L7.out.two.h2, L7.out.two.ne⟩⟩
            case measure => simp [intOf]; omega
        · go_wp2_with fail
          refine (KL.out _).mono ?_
          rintro e w3 ⟨rfl, hw3⟩
          have L4 := Lib.hid (bel_trans L3.out.bel hw3)
          clear hw3 L3
          go_wp2
          go_ret
          exact ⟨rfl, L4.out⟩
  · have KN := Lib.hid (fun w => new_bad n0 n1 n w f)
    have KM := Lib.hid (fun w => rnew_bad n0 n1 n w f)
    clear f
    go_enter Try.func3, Try.ntmps3
    go_wp2_with fail
    refine (KN.out _).mono ?_
    rintro e w1 ⟨rfl, rfl⟩
    go_wp2_with fail
    refine (KM.out _).mono ?_
    rintro e w1 ⟨rfl, rfl⟩
    go_wp2_with fail
    refine (KL.out _).mono ?_
    rintro e w3 ⟨rfl, hw3⟩
    have L3 := Lib.hid (bel_trans ((Below.refl _ _).alloc (Nat.le_refl _) _) hw3)
    clear hw3
    go_wp2
    go_ret
    exact ⟨rfl, L3.out⟩
end Go.Proofs.Ytnooneejidpdaaa
