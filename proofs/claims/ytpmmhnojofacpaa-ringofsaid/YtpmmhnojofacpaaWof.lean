/- RingOf's walk. -/
import Derived.Test.YtpmmhnojofacpaaEnds
import Derived.Test.YtpmmhnojofacpaaRpair
import Derived.Test.YtpmmhnojofacpaaRptr
import Derived.Test.YtpmmhnojofacpaaOpen
import Derived.Lib.Builder
namespace Go.Proofs.Ytpmmhnojofacpaa
open Go.RowKit

section
variable {rT eT sz rT' eT' sz' : Nat} {w w' : World} {base base' b b' m m' c c' n n' : Nat} {v v' : Value} {xs xs' : List Value}
theorem type_ne {g g' : Nat} {cs cs' : Array Value} {t t' : TypeId} {fr fr' : Nat × Nat} (h : w.heap[g]? = some (.cells cs t fr)) (h' : w.heap[g']? = some (.cells cs' t' fr')) (hne : t ≠ t') : g ≠ g' := fun e => by
  subst e
  rw [h] at h'
  injection h' with h'
  injection h' with _ h' _
  exact hne h'
/-- What another ring's calls write is none of this one's, where all types differ. -/
theorem Rg.kept (h : Rg rT eT sz w base b m c n v xs) (g : Rg rT' eT' sz' w base' b' m' c' n' v' xs') (t : Two b' v'.ownBlock w w') (h1 : rT ≠ rT') (h2 : rT ≠ eT') (h3 : eT ≠ rT') (h4 : eT ≠ eT') : Rg rT eT sz w' base b m c n v xs := by
  refine h.two t (type_ne h.blk g.blk h1) (fun e => ?_) (fun e => ?_) (fun p hp e => ?_)
  · obtain ⟨_, _, cur, hg⟩ := own_lt g.row e
    exact type_ne h.blk hg h2 rfl
  · obtain ⟨_, _, cur, hg⟩ := own_lt h.row e
    exact type_ne hg g.blk h3 rfl
  · obtain ⟨_, _, cur, hg⟩ := own_lt h.row hp
    obtain ⟨_, _, cur', hg'⟩ := own_lt g.row e
    exact type_ne hg hg' h4 rfl
theorem pushed_last {cs : List Value} {k t : Nat} (h : (pushed m n sz xs cs).length = (k + 1) * sz) (hc : cs.length = sz) : (pushed m n sz xs cs)[k * sz + t]? = cs[t]? := by
  unfold pushed at *
  generalize (if n = m then xs.drop sz else xs) = ys at *
  rw [List.length_append, hc] at h
  have h2 : (k + 1) * sz = k * sz + sz := Nat.succ_mul k sz
  have h1 : ys.length = k * sz := by omega
  rw [← h1, List.getElem?_append_right (by omega), Nat.add_sub_cancel_left]
end

/-- Two rings, of pairs and of pointers. -/
structure Both (w : World) (b1 b2 i : Nat) (wi : World) (v1 v2 : Value) (xs ys : List Value) : Prop where
  r : Rg_pair wi w.heap.size b1 3 i (min i 3) v1 xs
  s : Rg_ptr wi w.heap.size b2 2 i (min i 2) v2 ys
  bel : Below w.heap.size w wi
theorem Both.below {w wi wj : World} {b1 b2 i : Nat} {v1 v2 : Value} {xs ys : List Value} (s : Both w b1 b2 i wi v1 v2 xs ys) (h : Below wi.heap.size wi wj) : Both w b1 b2 i wj v1 v2 xs ys :=
  ⟨s.r.below h (Nat.le_refl _), s.s.below h (Nat.le_refl _), bel_trans s.bel h⟩

theorem some21 : (Try.prog.info? 21).isSome = true := by kernel_rfl
theorem neq_same (w : World) (a : Addr) : (binOp .neq 72 (.pointer (some a)) (.pointer (some a))).run Try.prog w = .ok (.bool false) w := by
  obtain ⟨j, hj⟩ := Option.isSome_iff_exists.1 some21
  exact Lib.run_neq_ptr_same w a Try.underlying72 hj

set_option maxRecDepth 100000 in
set_option maxHeartbeats 8000000 in
theorem walk_of (A : Option Addr) (len cap : Nat) (w : World) (hz : IntsIn .i32 w A len cap) :
    Calls Try.prog 7 #[.slice A len cap] w fun e w' => e = .returned (.bool true) ∧ Below w.heap.size w w' := by
  have l1 := hz.1
  have l2 : cap ≤ 9223372036854775807 := by have := hz.2.1; unfold maxLen at this; omega
  have Z := Lib.hid hz
  clear hz
  have KN1 : Hid (Calls Try.prog 31 #[.int .i64 3] w fun e w' => e = .returned (.tuple #[.pointer (some ⟨w.heap.size, 0, none⟩), .int .i64 0]) ∧ Rg_pair w' w.heap.size w.heap.size 3 0 0 (.slice none 0 0) [] ∧ Below w.heap.size w w') := Lib.hid (new_pair 3 w (by omega) (by omega))
  have KN2 : Hid (∀ w, Calls Try.prog 32 #[.int .i64 2] w fun e w' => e = .returned (.tuple #[.pointer (some ⟨w.heap.size, 0, none⟩), .int .i64 0]) ∧ Rg_ptr w' w.heap.size w.heap.size 2 0 0 (.slice none 0 0) [] ∧ Below w.heap.size w w') := Lib.hid (fun w => new_ptr 2 w (by omega) (by omega))
  go_enter Try.func7, Try.ntmps7
  go_wp2_with fail
  refine KN1.out.mono ?_
  rintro e w1 ⟨rfl, hr1, hb1⟩
  obtain ⟨b1, hb⟩ : ∃ b, b = w.heap.size := ⟨_, rfl⟩
  have L1 := Lib.hid (And.intro hr1 hb1)
  rw [← hb]
  rw [show Rg_pair w1 w.heap.size w.heap.size = Rg_pair w1 w.heap.size b1 by rw [hb]] at L1
  clear hr1 hb1 KN1 hb
  go_wp2_with fail
  refine (KN2.out _).mono ?_
  rintro e w2 ⟨rfl, hr2, hb2⟩
  obtain ⟨b2, hb⟩ : ∃ b, b = w1.heap.size := ⟨_, rfl⟩
  rw [← hb]
  have B2 : Both w b1 b2 0 w2 (.slice none 0 0) (.slice none 0 0) [] [] := by
    refine ⟨L1.out.1.below hb2 (Nat.le_refl _), ⟨by rw [hb]; exact hr2.blk, World.ownsRow_nil _ _ _ _, by simp, by have := L1.out.2.size; omega, Nat.zero_le _, hr2.ne⟩, bel_trans L1.out.2 hb2⟩
  have L2 := Lib.hid B2
  clear hr2 hb2 KN2 hb L1 B2
  go_wp2_with fail
  refine (alive_any _).mono ?_
  rintro e w3 ⟨rfl, hb3⟩
  have L3 := Lib.hid (L2.out.below hb3)
  clear hb3 L2
  by_cases q1 : 200 < len
  · go_wp2_with fail
    refine (alive_any _).mono ?_
    rintro e w4 ⟨rfl, hb4⟩
    have L4 := Lib.hid (L3.out.below hb4)
    clear hb4 L3
    go_wp2
    go_ret
    exact ⟨rfl, L4.out.bel⟩
  go_wp2_with fail
  go_loopw [48] (fun v48 wr => ∃ (i : Nat), i ≤ len ∧ v48 = .int .i64 (i : Int) ∧ Hid (∃ v1 v2 xs ys, Both w b1 b2 i wr v1 v2 xs ys)) (fun s _ => len - (intOf s).toNat)
  case atStart => exact ⟨0, Nat.zero_le _, rfl, Lib.hid ⟨_, _, _, _, L3.out⟩⟩
  case round =>
    clear L3
    obtain ⟨i, hi, rfl, RW⟩ := hrel
    obtain ⟨v1, v2, xs, ys, RV⟩ := RW.out
    have RS := Lib.hid RV
    clear RV RW
    by_cases hiN : i < len
    · obtain ⟨g, o, rfl, hg, hc⟩ := Z.out.2.2 (by omega)
      obtain ⟨x, hwx, hcx⟩ := hc i hiN
      have hcr : wr.cell? ⟨g, o + i, none⟩ = some (.int .i32 x) := (RS.out.bel.cell (p := ⟨g, o + i, none⟩) hg).trans hcx
      obtain ⟨nx, hnx⟩ : ∃ nx, IntKind.i32.wrap (-x) = nx := ⟨_, rfl⟩
      obtain ⟨W, hW⟩ : ∃ W, W = wr.alloc (.cells #[.int .i32 x] 21) := ⟨_, rfl⟩
      have hbW : Below wr.heap.size wr W := by rw [hW]; exact (Below.refl _ _).alloc (Nat.le_refl _) _
      have RW := Lib.hid (RS.out.below hbW)
      clear hg hc hcx hwx hbW RS
      go_wp2_with fail
      rw [← hW]
      refine (add_pair x nx RW.out.r (by omega) (by omega) (by omega)).mono ?_
      rintro e y1 ⟨rfl, u1, a1⟩
      have hb1 := a1.below RW.out.r
      have Y1 := Lib.hid (And.intro a1.ring (And.intro (RW.out.s.kept RW.out.r a1.two (by decide) (by decide) (by decide) (by decide)) (RW.out.bel.trans hb1)))
      have hP : wr.heap.size < W.heap.size := by rw [hW]; simp
      obtain ⟨P, hP'⟩ : ∃ P, P = wr.heap.size := ⟨_, rfl⟩
      rw [← hP']
      clear a1 RW hb1 hcr hW hP hP'
      go_wp2_with fail
      refine (add_ptr (some ⟨P, 0, none⟩) Y1.out.2.1 (by omega) (by omega) (by omega)).mono ?_
      rintro e y2 ⟨rfl, u2', a2⟩
      have hb2 := a2.below Y1.out.2.1
      have B2 : Both w b1 b2 (i + 1) y2 u1 u2' (pushed 3 (min i 3) 2 xs [.int .i32 x, .int .i32 nx]) (pushed 2 (min i 2) 1 ys [.pointer (some ⟨P, 0, none⟩)]) := by
        have r1 := Y1.out.1.kept Y1.out.2.1 a2.two (by decide) (by decide) (by decide) (by decide)
        have r2 := a2.ring
        rw [show min (min i 3 + 1) 3 = min (i + 1) 3 by omega] at r1
        rw [show min (min i 2 + 1) 2 = min (i + 1) 2 by omega] at r2
        exact ⟨r1, r2, Y1.out.2.2.trans hb2⟩
      obtain ⟨k1, hk1⟩ : ∃ k, min (i + 1) 3 = k + 1 := ⟨min (i + 1) 3 - 1, by omega⟩
      obtain ⟨k2, hk2⟩ : ∃ k, min (i + 1) 2 = k + 1 := ⟨min (i + 1) 2 - 1, by omega⟩
      have KL1 : Hid (∀ wi, Both w b1 b2 (i + 1) wi u1 u2' (pushed 3 (min i 3) 2 xs [.int .i32 x, .int .i32 nx]) (pushed 2 (min i 2) 1 ys [.pointer (some ⟨P, 0, none⟩)]) → Calls Try.prog 35 #[.pointer (some ⟨b1, 0, none⟩)] wi fun e w' => e = .returned (.tuple #[.agg #[.int .i32 x, .int .i32 nx], .bool true]) ∧ Below wi.heap.size wi w') := Lib.hid fun wi B => by
        have r1 := B.r
        rw [hk1] at r1
        have hl := r1.row.1
        exact last_pair r1 (by omega) (pushed_last (t := 0) hl rfl) (pushed_last (t := 1) hl rfl)
      have KL2 : Hid (∀ wi, Both w b1 b2 (i + 1) wi u1 u2' (pushed 3 (min i 3) 2 xs [.int .i32 x, .int .i32 nx]) (pushed 2 (min i 2) 1 ys [.pointer (some ⟨P, 0, none⟩)]) → Calls Try.prog 36 #[.pointer (some ⟨b2, 0, none⟩)] wi fun e w' => e = .returned (.tuple #[.pointer (some ⟨P, 0, none⟩), .bool true]) ∧ Below wi.heap.size wi w') := Lib.hid fun wi B => by
        have r2 := B.s
        rw [hk2] at r2
        have hl := r2.row.1
        have hx := pushed_last (t := 0) hl rfl
        rw [Nat.mul_one] at hx
        exact last_ptr r2 (by omega) hx
      have Y2 := Lib.hid B2
      clear B2 a2 hb2 Y1 hk1 hk2
      go_wp2_with fail
      refine (KL1.out _ Y2.out).mono ?_
      rintro e y3 ⟨rfl, hb3⟩
      obtain ⟨W3, hW3⟩ : ∃ W3, W3 = y3.alloc (.cells #[.int .i32 x, .int .i32 nx] 68) := ⟨_, rfl⟩
      have hbW : Below y3.heap.size y3 W3 := by rw [hW3]; exact (Below.refl _ _).alloc (Nat.le_refl _) _
      have Y3 := Lib.hid ((Y2.out.below hb3).below hbW)
      clear Y2 hb3 KL1 hbW
      go_wp2_with fail
      rw [← hW3]
      have gB : W3.heap[y3.heap.size]? = some (.cells #[.int .i32 x, .int .i32 nx] 68 (0, 0)) := by rw [hW3]; exact heap_alloc_new y3 _
      clear hW3
      refine (KL2.out _ Y3.out).mono ?_
      rintro e y4 ⟨rfl, hb4⟩
      have gB4 : y4.heap[y3.heap.size]? = some (.cells #[.int .i32 x, .int .i32 nx] 68 (0, 0)) := (hb4.block _ (heap_lt gB)).trans gB
      have x0 : y4.cell? ⟨y3.heap.size, 0, none⟩ = some (.int .i32 x) := by rw [cell_of_row _ _ _ _ _ _ gB4]; rfl
      have x1 : y4.cell? ⟨y3.heap.size, 1, none⟩ = some (.int .i32 nx) := by rw [cell_of_row _ _ _ _ _ _ gB4]; rfl
      have Y4 := Lib.hid (Y3.out.below hb4)
      clear Y3 hb4 KL2 gB gB4
      have nq := neq_same
      go_wp2
      refine ⟨⟨i + 1, by omega, by go_num, Lib.hid ⟨_, _, _, _, Y4.out⟩⟩, ?_⟩
      simp [intOf]; omega
    · obtain ⟨k3, hk3⟩ : ∃ k, min i 3 = k := ⟨_, rfl⟩
      obtain ⟨k2, hk2⟩ : ∃ k, min i 2 = k := ⟨_, rfl⟩
      have m3 : (if (len : Int) < 3 then (len : Int) else 3) = (k3 : Int) := by split <;> omega
      have m2 : (if (len : Int) < 2 then (len : Int) else 2) = (k2 : Int) := by split <;> omega
      have K3 := Lib.hid (len_pair RS.out.r)
      have K2 := Lib.hid (len_ptr RS.out.s)
      rw [hk3] at K3
      rw [hk2] at K2
      clear hk2 hk3
      go_wp2_with fail
      refine K3.out.mono ?_
      rintro e w4 ⟨rfl, rfl⟩
      go_wp2_with fail
      refine K2.out.mono ?_
      rintro e w5 ⟨rfl, rfl⟩
      go_wp2
      go_ret
      exact ⟨rfl, RS.out.bel⟩
end Go.Proofs.Ytpmmhnojofacpaa
