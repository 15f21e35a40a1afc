/- FreshKeeps' walk. -/
import Derived.Test.YtijknffgdedohaaAlive
import Derived.Test.YtijknffgdedohaaRef
import Derived.Test.YtijknffgdedohaaOpen
import Derived.Test.YtijknffgdedohaaWnone
import Derived.BigQuiet
namespace Go.Proofs.Ytijknffgdedohaa
open Go.RowKit

section
variable {α : Type}
/-- What is kept behind the i-th one, where those ahead of the f-th were forgotten. -/
theorem cut_snoc {l : List α} {i f : Nat} {x : α} (h : l[i]? = some x) (hf : f ≤ i) : (l.take (i + 1)).drop f = (l.take i).drop f ++ [x] := by
  have hi : i < l.length := (List.getElem?_eq_some_iff.1 h).1
  rw [take_snoc h, List.drop_append_of_le_length (by rw [List.length_take]; omega)]
theorem cut_self (l : List α) (i : Nat) : (l.take i).drop i = [] := List.drop_eq_nil_of_le (by rw [List.length_take]; omega)
/-- The last eight of it are a slice of the list. -/
theorem cut_last {l : List α} {i f lo : Nat} (hi : i ≤ l.length) (hlo : lo = max f (i - 8)) : last8 ((l.take i).drop f) = (l.take i).drop lo := by
  unfold last8
  rw [List.drop_drop, List.length_drop, List.length_take]
  congr 1
  omega
theorem length_cut {l : List α} {i lo : Nat} (hi : i ≤ l.length) : ((l.take i).drop lo).length = i - lo := by rw [List.length_drop, List.length_take]; omega
end

set_option maxRecDepth 100000 in
set_option maxHeartbeats 8000000 in
theorem walk_keeps (A : Option Addr) (len cap : Nat) (at' : Int) (w : World) (hz : ActsIn w A len cap) (n1 : 0 ≤ at') (n2 : at' ≤ 255) :
    Calls Try.prog 8 #[.slice A len cap, .int .u8 at'] w fun e w' => e = .returned (.bool true) ∧ Below w.heap.size w w' := by
  obtain ⟨l1, l2, l, hl, hin, hsm, _⟩ := hz
  have m1 : cap ≤ 9223372036854775807 := by unfold maxLen at l2; omega
  have Z := Lib.hid (And.intro hl (And.intro hin (And.intro hsm l2)))
  clear hl hin hsm l2
  go_enter Try.func8, Try.ntmps8
  go_wp2_with fail
  refine (snew_any w).mono ?_
  rintro e w1 ⟨rfl, hs1, hb1, _⟩
  obtain ⟨sb, hsb⟩ : ∃ sb, sb = w.heap.size + 1 := ⟨_, rfl⟩
  rw [← hsb] at hs1 ⊢
  have H1 := Lib.hid (And.intro hs1 hb1)
  clear hs1 hb1 hsb
  go_wp2_with fail
  refine (alive_any _).mono ?_
  rintro e w2 ⟨rfl, hb2⟩
  have H2 := Lib.hid (And.intro (H1.out.1.below hb2) (bel_trans H1.out.2 hb2))
  clear hb2 H1
  by_cases q1 : 60 < len
  · go_wp2_with fail
    refine (alive_any _).mono ?_
    rintro e w3 ⟨rfl, hb3⟩
    have L3 := Lib.hid (bel_trans H2.out.2 hb3)
    clear hb3 H2
    go_wp2
    go_ret
    exact ⟨rfl, L3.out⟩
  have q2 : len ≤ 60 := by omega
  clear q1
  go_wp2_with fail
  obtain ⟨k, hk, hk2⟩ : ∃ k : Nat, at' % ((len : Int) + 1) = (k : Int) ∧ k ≤ len := ⟨(at' % ((len : Int) + 1)).toNat, by have := Int.emod_nonneg at' (b := (len : Int) + 1) (by omega); omega, by have := Int.emod_lt_of_pos at' (b := (len : Int) + 1) (by omega); omega⟩
  rw [hk]
  clear hk
  go_loopw [7, 34] (fun v7 v34 wr => ∃ (i f : Nat), i ≤ len ∧ v7 = .int .i64 (f : Int) ∧ v34 = .int .i64 (i : Int) ∧ f ≤ i ∧ Hid (∃ c, c ≤ i ∧ St wr w.heap.size sb c (last8 ((l.take i).drop f)) ∧ Below w.heap.size w wr)) (fun _ s _ => len - (intOf s).toNat)
  case atStart => exact ⟨0, 0, Nat.zero_le _, rfl, rfl, Nat.le_refl _, Lib.hid ⟨0, Nat.le_refl _, H2.out⟩⟩
  case round =>
    clear H2
    obtain ⟨i, f, hi, rfl, rfl, hfi, R⟩ := hrel
    by_cases hil : i < len
    · obtain ⟨p, hp⟩ : ∃ p, l[i]? = some p := ⟨_, List.getElem?_eq_getElem (by have := Z.out.1; omega)⟩
      obtain ⟨c, hci, hS, hB⟩ := R.out
      obtain ⟨g, o, rfl, _⟩ := Z.out.2.2.1 i p hp
      obtain ⟨y0, y1, y2, y3⟩ := (Z.out.2.2.1.later hB).at4 hp
      obtain ⟨W, hW⟩ : ∃ W, W = wr.alloc (.cells p.arr 28) := ⟨_, rfl⟩
      have hbW : Below wr.heap.size wr W := by rw [hW]; exact bel_box _ _
      have gX : W.heap[wr.heap.size]? = some (.cells p.arr 28 (0, 0)) := by rw [hW]; exact heap_alloc_new wr _
      have S0 := Lib.hid (And.intro (hS.below hbW) (bel_trans hB hbW))
      have GX := Lib.hid gX
      clear hS hB hbW gX R
      by_cases hik : i = k
      · subst hik
        go_wp2_with fail
        rw [← hW]
        clear hW y0 y1 y2 y3
        refine (sclear_more S0.out.1).mono ?_
        rintro e w4 ⟨rfl, hs4, hb4, hk4⟩
        obtain ⟨⟨x0, x1, x2, x3⟩, _⟩ := cells4 (hk4 _ _ _ GX.out (by decide))
        have S0 := Lib.hid (And.intro (show St w4 w.heap.size sb c (last8 ((l.take i).drop i)) by rw [cut_self]; exact hs4) (S0.out.2.trans hb4))
        clear hs4 hb4 hk4
        go_wp2_with fail
        clear x0 x1 x2 x3
        refine (sadd_any p.o p.d p.t p.s S0.out.1 (by omega)).mono ?_
        rintro e w5 ⟨rfl, hs5, hb5⟩
        rw [push8_last, ← cut_snoc hp (by omega)] at hs5
        have S5 := Lib.hid (And.intro hs5 (S0.out.2.trans hb5))
        clear hs5 hb5 S0
        have eL := cut_last (l := l) (i := i + 1) (f := i) (lo := i) (by have := Z.out.1; omega) (by omega)
        rw [eL] at S5
        have EL := Lib.hid eL
        clear eL
        have hlen : ((l.take (i + 1)).drop i).length = 1 := by rw [length_cut (by have := Z.out.1; omega)]; omega
        have HL := Lib.hid hlen
        go_wp2_with fail
        refine (sall_any S5.out.1).mono ?_
        rintro e w6 ⟨rfl, _, hm6, hb6⟩
        rw [hlen]
        obtain ⟨H, hH⟩ : ∃ H, H = w5.heap.size := ⟨_, rfl⟩
        rw [← hH] at hm6 ⊢
        have S6 := Lib.hid (And.intro (S5.out.1.below hb6) (And.intro (bel_trans S5.out.2 hb6) hm6))
        clear hm6 hb6 S5 hlen hH
        have t2 : (i : Int) ≤ (i : Int) + 1 := by omega
        have t3 : (i : Int) + 1 ≤ (cap : Int) := by omega
        have t4 : (0 : Int) ≤ (i : Int) := by omega
        have t5 : (i : Int) ≤ (cap : Int) := by omega
        have t6 : (i : Int) + 1 ≤ (len : Int) := by omega
        go_wp2_with fail
        go_loopw [66] (fun v66 wk => ∃ (j : Nat), j ≤ 1 ∧ v66 = .int .i64 (j : Int) ∧ Hid (Below w6.heap.size w6 wk)) (fun s _ => 1 - (intOf s).toNat)
        case atStart => exact ⟨0, Nat.zero_le _, rfl, Lib.hid (Below.refl _ _)⟩
        case round =>
          obtain ⟨j, hj, rfl, RK⟩ := hrel
          by_cases hjn : j < 1
          · obtain ⟨q, hq⟩ : ∃ q, ((l.take (i + 1)).drop i)[j]? = some q := ⟨_, List.getElem?_eq_getElem (by have := HL.out; omega)⟩
            obtain ⟨u0, u1, u2, u3⟩ := (S6.out.2.2.later RK.out).at4 hq
            obtain ⟨v0, v1, v2, v3⟩ := (((Z.out.2.2.1.later (bel_trans S6.out.2.1 RK.out)).take (i + 1)).drop i).at4 hq
            rw [Nat.zero_add] at u0 u1 u2 u3
            have b1 : (j : Int) < 1 := by omega
            have b2 : (0 : Int) ≤ (j : Int) := by omega
            clear hq
            go_wp2_with fail
            go_quiet (fail)
            go_wp2
            refine ⟨⟨j + 1, by omega, by go_num, Lib.hid (below_drewN RK.out _)⟩, ?_⟩
            simp [intOf]; omega
          · have hjN : j = 1 := by omega
            subst hjN
            go_wp2
            refine ⟨⟨i + 1, i, by omega, rfl, by go_num, by omega, Lib.hid ⟨c + 1, by omega, ?_, bel_trans S6.out.2.1 RK.out⟩⟩, ?_⟩
            · rw [EL.out]; exact S6.out.1.below RK.out
            · simp [intOf]; omega
      · have hik2 : ¬ (i : Int) = (k : Int) := by omega
        go_wp2_with fail
        rw [← hW]
        clear hW y0 y1 y2 y3
        refine (sadd_any p.o p.d p.t p.s S0.out.1 (by omega)).mono ?_
        rintro e w5 ⟨rfl, hs5, hb5⟩
        rw [push8_last, ← cut_snoc hp (by omega)] at hs5
        have S5 := Lib.hid (And.intro hs5 (S0.out.2.trans hb5))
        clear hs5 hb5 S0
        obtain ⟨lo, hlo⟩ : ∃ lo : Nat, lo = max f (i + 1 - 8) := ⟨_, rfl⟩
        have lo1 : lo ≤ i := by omega
        have lo2 : (if (f : Int) < (i : Int) + 1 - 8 then (i : Int) + 1 - 8 else (f : Int)) = (lo : Int) := by split <;> omega
        have lo3 : i < lo + 8 := by omega
        have eL := cut_last (l := l) (i := i + 1) (f := f) (by have := Z.out.1; omega) hlo
        clear hlo
        rw [eL] at S5
        have EL := Lib.hid eL
        clear eL
        have hlen : ((l.take (i + 1)).drop lo).length = (i + 1 - lo) := by rw [length_cut (by have := Z.out.1; omega)]
        have HL := Lib.hid hlen
        go_wp2_with fail
        refine (sall_any S5.out.1).mono ?_
        rintro e w6 ⟨rfl, _, hm6, hb6⟩
        rw [hlen]
        obtain ⟨H, hH⟩ : ∃ H, H = w5.heap.size := ⟨_, rfl⟩
        rw [← hH] at hm6 ⊢
        have S6 := Lib.hid (And.intro (S5.out.1.below hb6) (And.intro (bel_trans S5.out.2 hb6) hm6))
        clear hm6 hb6 S5 hlen hH
        have t2 : (lo : Int) ≤ (i : Int) + 1 := by omega
        have t3 : (i : Int) + 1 ≤ (cap : Int) := by omega
        have t4 : (0 : Int) ≤ (lo : Int) := by omega
        have t5 : (lo : Int) ≤ (cap : Int) := by omega
        have t6 : (i : Int) + 1 ≤ (len : Int) := by omega
        go_wp2_with fail
        go_loopw [66] (fun v66 wk => ∃ (j : Nat), j ≤ (i + 1 - lo) ∧ v66 = .int .i64 (j : Int) ∧ Hid (Below w6.heap.size w6 wk)) (fun s _ => (i + 1 - lo) - (intOf s).toNat)
        case atStart => exact ⟨0, Nat.zero_le _, rfl, Lib.hid (Below.refl _ _)⟩
        case round =>
          obtain ⟨j, hj, rfl, RK⟩ := hrel
          by_cases hjn : j < (i + 1 - lo)
          · obtain ⟨q, hq⟩ : ∃ q, ((l.take (i + 1)).drop lo)[j]? = some q := ⟨_, List.getElem?_eq_getElem (by have := HL.out; omega)⟩
            obtain ⟨u0, u1, u2, u3⟩ := (S6.out.2.2.later RK.out).at4 hq
            obtain ⟨v0, v1, v2, v3⟩ := (((Z.out.2.2.1.later (bel_trans S6.out.2.1 RK.out)).take (i + 1)).drop lo).at4 hq
            rw [Nat.zero_add] at u0 u1 u2 u3
            have b1 : (j : Int) < ((i + 1 - lo) : Nat) := by omega
            have b2 : (0 : Int) ≤ (j : Int) := by omega
            clear hq
            go_wp2_with fail
            go_quiet (fail)
            go_wp2
            refine ⟨⟨j + 1, by omega, by go_num, Lib.hid (below_drewN RK.out _)⟩, ?_⟩
            simp [intOf]; omega
          · have hjN : j = (i + 1 - lo) := by omega
            subst hjN
            go_wp2
            refine ⟨⟨i + 1, f, by omega, rfl, by go_num, by omega, Lib.hid ⟨c + 1, by omega, ?_, bel_trans S6.out.2.1 RK.out⟩⟩, ?_⟩
            · rw [EL.out]; exact S6.out.1.below RK.out
            · simp [intOf]; omega
    · go_wp2
      go_ret
      obtain ⟨c, hci, hS, hB⟩ := R.out
      exact ⟨rfl, hB⟩
end Go.Proofs.Ytijknffgdedohaa
