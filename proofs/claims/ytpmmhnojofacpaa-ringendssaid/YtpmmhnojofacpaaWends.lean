/- RingEnds' walk. -/
import Derived.Test.YtpmmhnojofacpaaEnds
import Derived.Test.YtpmmhnojofacpaaRu16
import Derived.Test.YtpmmhnojofacpaaOpen
namespace Go.Proofs.Ytpmmhnojofacpaa
open Go.RowKit

def u16s (l : List Int) : List Value := l.map (Value.int .u16)
/-- A ring that holds the end of a list, behind what was there in w. -/
structure Ends (w : World) (b m : Nat) (l : List Int) (wi : World) (v : Value) : Prop where
  ring : Rg_u16 wi w.heap.size b m l.length (min l.length m) v (u16s (endOf m l))
  bel : Below w.heap.size w wi
theorem Ends.below {w wi wj : World} {b m : Nat} {l : List Int} {v : Value} (s : Ends w b m l wi v) (h : Below wi.heap.size wi wj) : Ends w b m l wj v := ⟨s.ring.below h (Nat.le_refl _), bel_trans s.bel h⟩
/-- Behind Add. -/
theorem Ends.add {w wi wj : World} {b m : Nat} {l : List Int} {v v' : Value} {z : Int} (h1 : 1 ≤ m) (s : Ends w b m l wi v) (a : Added_u16 wi wj w.heap.size b m l.length (min l.length m) v (u16s (endOf m l)) [.int .u16 z] v') : Ends w b m (l ++ [z]) wj v' := by
  have hr := a.ring
  rw [show pushed m (min l.length m) 1 (u16s (endOf m l)) [.int .u16 z] = u16s (endOf m (l ++ [z])) from pushed_end h1 (Value.int .u16) l z, show min (min l.length m + 1) m = min (l.length + 1) m by omega] at hr
  refine ⟨?_, s.bel.trans (a.below s.ring)⟩
  rw [List.length_append, List.length_singleton]
  exact hr
theorem take_snoc {α : Type} {l : List α} {i : Nat} {z : α} (h : l[i]? = some z) : l.take (i + 1) = l.take i ++ [z] := by
  rw [List.take_add_one, h]; rfl
theorem Ends.last {w wi : World} {b m : Nat} {l : List Int} {v : Value} {z : Int} (h1 : 1 ≤ m) (h2 : m ≤ 64) (s : Ends w b m (l ++ [z]) wi v) : Calls Try.prog 27 #[.pointer (some ⟨b, 0, none⟩)] wi fun e w' => e = .returned (.tuple #[.int .u16 z, .bool true]) ∧ Below wi.heap.size wi w' := by
  have hr := s.ring
  have hl := endOf_last h1 l z
  rw [List.length_append, List.length_singleton] at hr
  obtain ⟨k, hk⟩ : ∃ k, min (l.length + 1) m = k + 1 := ⟨min (l.length + 1) m - 1, by omega⟩
  rw [hk] at hr hl
  exact last_u16 hr h2 (by unfold u16s; rw [List.getElem?_map, show k = k + 1 - 1 from rfl, hl]; rfl)
/-- A row that the law itself holds beside the ring. -/
structure Mine (w : World) (b H k : Nat) (v : Value) (ys : List Value) (wi : World) : Prop where
  row : wi.ownsRow H 55 1 (.slice (some ⟨H, 0, none⟩) k k) k ys
  own : w.heap.size ≤ H
  nb : b ≠ H
  nv : v.ownBlock ≠ some H
theorem two_cell (w : World) (H j : Nat) (u : Value) : Two H none w (w.setCell ⟨H, j, none⟩ u) := (Two.of_below (Below.refl _ _)).setCell j u
theorem Mine.store {w wr : World} {b m H k : Nat} {l : List Int} {v : Value} {ys : List Value} (E : Ends w b m l wr v) (M : Mine w b H k v ys wr) (j : Nat) (u : Value) :
    Ends w b m l (wr.setCell ⟨H, j, none⟩ u).drew v ∧ Mine w b H k v (ys.set j u) (wr.setCell ⟨H, j, none⟩ u).drew := by
  refine ⟨⟨Rg.drewn (E.ring.two (two_cell wr H j u) M.nb (by simp) M.nv (fun _ _ => by simp)) rfl, (E.bel.setCell (p := ⟨H, j, none⟩) M.own u).drew⟩, (M.row.stored j u).1, M.own, M.nb, M.nv⟩
theorem set_behind {ys zs : List Value} {j : Nat} (u : Value) (h : ∀ t, j ≤ t → ys[t]? = zs[t]?) : ∀ t, j + 1 ≤ t → (ys.set j u)[t]? = zs[t]? := fun t ht => by
  rw [List.getElem?_set_ne (by omega)]; exact h t (by omega)

set_option maxRecDepth 100000 in
set_option maxHeartbeats 8000000 in
theorem walk_ends (n : Int) (A : Option Addr) (len cap : Nat) (w : World) (hz : IntsIn .u16 w A len cap) :
    Calls Try.prog 5 #[.int .i64 n, .slice A len cap] w fun e w' => e = .returned (.bool true) ∧ Below w.heap.size w w' := by
  have KM := Lib.hid (fun w => most_any n w)
  obtain ⟨m1, m2⟩ := mostOf_in n
  generalize mostOf n = m at *
  have l1 := hz.1
  have l2 : cap ≤ 9223372036854775807 := by have := hz.2.1; unfold maxLen at this; omega
  obtain ⟨zs, hl, hcells⟩ := hz.list
  have Z := Lib.hid (And.intro hl hcells)
  clear hz hl hcells
  go_enter Try.func5, Try.ntmps5
  go_wp2_with fail
  refine (KM.out _).mono ?_
  rintro e w0 ⟨rfl, rfl⟩
  go_wp2_with fail
  refine (new_u16 m _ m1 m2).mono ?_
  rintro e w1 ⟨rfl, hr1, hb1⟩
  obtain ⟨b, hb⟩ : ∃ b, b = w.heap.size := ⟨_, rfl⟩
  rw [← hb]
  have S1 : Ends w b m [] w1 (.slice none 0 0) := ⟨by rw [hb]; simpa [endOf_nil, u16s] using hr1, hb1⟩
  have L1 := Lib.hid S1
  clear hr1 hb1 S1 hb
  go_wp2_with fail
  refine (alive_any _).mono ?_
  rintro e w2 ⟨rfl, hb2⟩
  have L2 := Lib.hid (L1.out.below hb2)
  clear hb2 L1
  by_cases b1 : 300 < len
  · go_wp2_with fail
    refine (alive_any _).mono ?_
    rintro e w3 ⟨rfl, hb3⟩
    have L3 := Lib.hid (L2.out.below hb3)
    clear hb3 L2
    go_wp2
    go_ret
    exact ⟨rfl, L3.out.bel⟩
  go_wp2_with fail
  go_loopw [37] (fun v37 wr => ∃ (i : Nat), i ≤ len ∧ v37 = .int .i64 (i : Int) ∧ Hid (∃ v, Ends w b m (zs.take i) wr v)) (fun s _ => len - (intOf s).toNat)
  case atStart => exact ⟨0, Nat.zero_le _, rfl, Lib.hid ⟨_, L2.out⟩⟩
  case round =>
    clear L2
    obtain ⟨i, hi, rfl, RW⟩ := hrel
    by_cases hiN : i < len
    · obtain ⟨v, RV⟩ := RW.out
      have RS := Lib.hid RV
      clear RV RW
      obtain ⟨z, hz⟩ : ∃ z, zs[i]? = some z := ⟨_, List.getElem?_eq_getElem (by rw [Z.out.1]; exact hiN)⟩
      obtain ⟨hwz, g, o, rfl, hg, hc⟩ := Z.out.2 i z hz
      have hcr : wr.cell? ⟨g, o + i, none⟩ = some (.int .u16 z) := (RS.out.bel.cell (p := ⟨g, o + i, none⟩) hg).trans hc
      have hlen : (zs.take i).length = i := by rw [List.length_take, Z.out.1]; omega
      have hle : (zs.take i).length ≤ 1000000000 := by omega
      have TS := Lib.hid (take_snoc hz)
      have KA := Lib.hid (add_u16 z RS.out.ring m1 m2 hle)
      have HG := Lib.hid hg
      clear hz hwz hg hc hle
      go_wp2_with fail
      refine KA.out.mono ?_
      rintro e w3 ⟨rfl, v3, a3⟩
      have S3 := RS.out.add m1 a3
      have hl3 : (zs.take i ++ [z]).length = i + 1 := by rw [List.length_append, hlen]; rfl
      obtain ⟨l, hl⟩ : ∃ l, l = zs.take i ++ [z] := ⟨_, rfl⟩
      have E3 := Lib.hid S3
      have KL : Hid (∀ wi, Ends w b m (zs.take i ++ [z]) wi v3 → _) := Lib.hid (fun wi (s : Ends w b m (zs.take i ++ [z]) wi v3) => Ends.last m1 m2 s)
      rw [← TS.out] at E3 KL hl3
      clear S3 a3 KA RS hcr hl hlen
      obtain ⟨k, hk⟩ : ∃ k, min (i + 1) m = k := ⟨_, rfl⟩
      have K4 := Lib.hid (all_u16 E3.out.ring m2)
      rw [hl3, hk] at K4
      go_wp2_with fail
      refine K4.out.mono ?_
      rintro e w4 ⟨rfl, hr4, hb4⟩
      obtain ⟨H, hH⟩ : ∃ H, H = w3.heap.size := ⟨_, rfl⟩
      rw [← hH] at hr4 ⊢
      have M4 := Lib.hid (And.intro (E3.out.below hb4) (show Mine w b H k v3 (u16s (endOf m (zs.take (i + 1)))) w4 from ⟨hr4, by have := E3.out.bel.size; omega, by have := E3.out.ring.lt; omega, fun e => by have := (own_lt E3.out.ring.row e).2.1; omega⟩))
      clear hr4 hb4 hH K4
      have hk1 : k ≤ i + 1 := by omega
      have hk2 : k ≤ 64 := by omega
      have hmin : (if (m : Int) < (i : Int) + 1 then (m : Int) else (i : Int) + 1) = (k : Int) := by split <;> omega
      have HK := Lib.hid hk
      clear hk
      go_wp2_with fail
      refine (KM.out _).mono ?_
      rintro e w5 ⟨rfl, rfl⟩
      go_wp2_with fail
      clear hmin
      go_loopw [57] (fun v57 wi => ∃ (j : Nat) (ys : List Value), j ≤ k ∧ v57 = .int .i64 (j : Int) ∧ Hid (Ends w b m (zs.take (i + 1)) wi v3 ∧ Mine w b H k v3 ys wi ∧ ∀ t, j ≤ t → ys[t]? = (u16s (endOf m (zs.take (i + 1))))[t]?)) (fun s _ => k - (intOf s).toNat)
      case atStart => exact ⟨0, _, Nat.zero_le _, rfl, Lib.hid ⟨M4.out.1, M4.out.2, fun _ _ => rfl⟩⟩
      case round =>
        clear M4
        obtain ⟨j, ys, hj, rfl, R2⟩ := hrel
        by_cases hjN : j < k
        · have hl4 : (endOf m (zs.take (i + 1))).length = k := by rw [length_endOf, hl3]; exact HK.out
          obtain ⟨y, hy⟩ : ∃ y, (endOf m (zs.take (i + 1)))[j]? = some y := ⟨_, List.getElem?_eq_getElem (by rw [hl4]; exact hjN)⟩
          have hyr : ys[j]? = some (.int .u16 y) := by rw [R2.out.2.2 j (Nat.le_refl _)]; unfold u16s; rw [List.getElem?_map, hy]; rfl
          obtain ⟨s, hs⟩ : ∃ s, i + 1 - k = s := ⟨_, rfl⟩
          have hyz : zs[s + j]? = some y := by
            rw [endOf_get, hl3, HK.out, hs, List.getElem?_take] at hy
            split at hy
            · exact hy
            · cases hy
          obtain ⟨hwy, g', o', hA, _, hcy⟩ := Z.out.2 (s + j) y hyz
          injection hA with hA
          injection hA with hA1 hA2 _
          subst hA1 hA2
          obtain ⟨y1, y2⟩ := bounds_u16 hwy
          have c2 : wr.cell? ⟨g, o + (s + j), none⟩ = some (.int .u16 y) := (R2.out.1.bel.cell (p := ⟨g, o + (s + j), none⟩) HG.out).trans hcy
          have c1 : wr.cell? ⟨H, j, none⟩ = some (.int .u16 y) := (R2.out.2.1.row.cellAt j (by omega)).trans hyr
          have c3 : wr.frozen? ⟨H, j, none⟩ = false := R2.out.2.1.row.frozenAt j
          have s0 : IntKind.i64.wrap ((i : Int) + 1) = (i : Int) + 1 := by simp only [IntKind.wrap_i64]; omega
          have s1 : (i : Int) + 1 - (k : Int) = (s : Int) := by omega
          have s2 : IntKind.i64.wrap (s : Int) = (s : Int) := by simp only [IntKind.wrap_i64]; omega
          have hst : s + j < len := by have := (List.getElem?_eq_some_iff.1 hyz).1; rw [Z.out.1] at this; exact this
          obtain ⟨t, ht⟩ : ∃ t, s + j = t := ⟨_, rfl⟩
          rw [ht] at c2 hst
          have s3 : (s : Int) + (j : Int) = (t : Int) := by omega
          have s4 : IntKind.i64.wrap (t : Int) = (t : Int) := by simp only [IntKind.wrap_i64]; omega
          have s5 : (t : Int) < (len : Int) := by omega
          have s6 : (0 : Int) ≤ (t : Int) := by omega
          clear hl4 hy hyr hs hyz hwy hcy ht
          go_wp2_with fail
          go_still_tail 14, (by kernel_rfl)
          clear s0 s1 s2 s3 s4 s5 s6
          go_wp2
          obtain ⟨N1, N2⟩ := Mine.store R2.out.1 R2.out.2.1 j (Value.int IntKind.u16 (bits BinOp.xor IntKind.u16 (if IntKind.u16.signed = true then -1 else IntKind.u16.max) y))
          refine ⟨⟨j + 1, _, by omega, by go_num, Lib.hid ⟨N1, N2, set_behind _ R2.out.2.2⟩⟩, ?_⟩
          simp [intOf]; omega
        · go_wp2_with fail
          refine (KL.out _ R2.out.1).mono ?_
          rintro e w6 ⟨rfl, hb6⟩
          have L6 := Lib.hid (R2.out.1.below hb6)
          clear hb6 R2
          go_wp2
          refine ⟨⟨i + 1, by omega, by go_num, Lib.hid ⟨_, L6.out⟩⟩, ?_⟩
          simp [intOf]; omega
    · obtain ⟨v, RV⟩ := RW.out
      have hlen : (zs.take i).length = len := by rw [List.length_take, Z.out.1]; omega
      have KC := Lib.hid (count_u16 RV.ring)
      rw [hlen] at KC
      have RS := Lib.hid RV
      clear RV RW hlen
      go_wp2_with fail
      refine KC.out.mono ?_
      rintro e w3 ⟨rfl, rfl⟩
      go_wp2
      go_ret
      exact ⟨rfl, RS.out.bel⟩
end Go.Proofs.Ytpmmhnojofacpaa
