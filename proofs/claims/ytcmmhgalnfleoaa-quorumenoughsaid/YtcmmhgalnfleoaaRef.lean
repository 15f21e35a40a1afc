/- The document's answers of layer 10. -/
import Derived.Test.YtcmmhgalnfleoaaBst
import Derived.Deep.RegionHeld3
import Derived.Lib.QuietBelow
import Derived.Deep.CutBlock
import Derived.Deep.DeepCutAuto
import Derived.Deep.RegionWith
namespace Go.Proofs.Ytcmmhgalnfleoaa
open Go.RowKit

theorem rlast_any (A : Option Addr) (cap : Nat) (l : List Sm) (wm w : World) (h1 : l.length ≤ cap) (h2 : cap ≤ maxLen) (hm : Sms wm A l) :
    Calls Try.prog 28 #[.slice A l.length cap] w fun e w' => (∃ A' cap', e = .returned (.slice A' (last8 l).length cap') ∧ (last8 l).length ≤ cap' ∧ cap' ≤ maxLen ∧ Sms wm A' (last8 l)) ∧ w = w' := by
  have m1 : cap ≤ 9223372036854775807 := by unfold maxLen at h2; omega
  by_cases h8 : 8 < l.length
  · obtain ⟨p, hp⟩ : ∃ p, l[0]? = some p := ⟨_, List.getElem?_eq_getElem (by omega)⟩
    obtain ⟨g, o, rfl, _⟩ := hm 0 p hp
    have hd := hm.drop (l.length - 8)
    have hl8 : (last8 l).length = 8 := by rw [length_last8]; omega
    have H := Lib.hid (And.intro hd (And.intro h2 hl8))
    obtain ⟨n, hn⟩ : ∃ n, n = l.length := ⟨_, rfl⟩
    rw [← hn] at h1 h8 ⊢
    have q1 : (n : Int) - 8 ≤ (n : Int) := by omega
    have q2 : (n : Int) ≤ (cap : Int) := by omega
    have q3 : 0 ≤ (n : Int) - 8 := by omega
    have q4 : ((n : Int) - 8).toNat = n - 8 := by omega
    have q5 : n - 8 ≤ cap := by omega
    have q6 : n - 8 < cap := by omega
    clear hm hp hd hl8 h2
    go_enter Try.func28, Try.ntmps28
    go_wp2
    go_ret
    refine ⟨⟨some ⟨g, o + (l.length - 8) * 4, none⟩, cap - (l.length - 8), ?_, by rw [H.out.2.2]; omega, by have := H.out.2.1; omega, H.out.1⟩, rfl⟩
    show Ending.returned (Value.slice (some ⟨g, o + (l.length - 8) * 4, none⟩) (l.length - (l.length - 8)) (cap - (l.length - 8))) = _
    rw [H.out.2.2, show l.length - (l.length - 8) = 8 by omega]
  · have hl8 := last8_all (l := l) (by omega)
    rw [hl8]
    have H := Lib.hid hm
    clear hm hl8
    go_enter Try.func28, Try.ntmps28
    go_wp2
    go_ret
    exact ⟨⟨A, cap, rfl, h1, h2, H.out⟩, rfl⟩

theorem Sms.at4 {W : World} {g o k : Nat} {l : List Sm} {q : Sm} (h : Sms W (some ⟨g, o, none⟩) l) (hq : l[k]? = some q) :
    W.cell? ⟨g, o + k * 4, none⟩ = some (.int .i64 q.o) ∧ W.cell? ⟨g, o + k * 4 + 1, none⟩ = some (.int .i64 q.d) ∧ W.cell? ⟨g, o + k * 4 + 2, none⟩ = some (.int .i64 q.t) ∧ W.cell? ⟨g, o + k * 4 + 3, none⟩ = some (.int .i64 q.s) := by
  obtain ⟨g', o', e, _, h0, h1, h2, h3⟩ := h k q hq
  injection e with e
  injection e with e1 e2 _
  subst e1 e2
  exact ⟨h0, h1, h2, h3⟩
theorem below_drew {B : Nat} {w W : World} (h : Below B w W) : Below B w W.drew := ⟨h.os, h.tape, h.output, h.size, h.block⟩
theorem cell_other {W : World} {g j b o : Nat} (v : Value) (h : g ≠ b) : (W.setCell ⟨b, o, none⟩ v).cell? ⟨g, j, none⟩ = W.cell? ⟨g, j, none⟩ := World.cell?_of_block (a := ⟨g, j, none⟩) (Below.heap_setCell _ _ _ _ (by exact h))
theorem Sms.at4_set {W : World} {g o k R : Nat} {l : List Sm} {q : Sm} (h : Sms W (some ⟨g, o, none⟩) l) (hq : l[k]? = some q) (hne : g ≠ R) (a b c d : Value) :
    ((((W.setCell ⟨R, 0, none⟩ a).setCell ⟨R, 1, none⟩ b).setCell ⟨R, 2, none⟩ c).setCell ⟨R, 3, none⟩ d).cell? ⟨g, o + k * 4, none⟩ = some (.int .i64 q.o) ∧
    ((((W.setCell ⟨R, 0, none⟩ a).setCell ⟨R, 1, none⟩ b).setCell ⟨R, 2, none⟩ c).setCell ⟨R, 3, none⟩ d).cell? ⟨g, o + k * 4 + 1, none⟩ = some (.int .i64 q.d) ∧
    ((((W.setCell ⟨R, 0, none⟩ a).setCell ⟨R, 1, none⟩ b).setCell ⟨R, 2, none⟩ c).setCell ⟨R, 3, none⟩ d).cell? ⟨g, o + k * 4 + 2, none⟩ = some (.int .i64 q.t) ∧
    ((((W.setCell ⟨R, 0, none⟩ a).setCell ⟨R, 1, none⟩ b).setCell ⟨R, 2, none⟩ c).setCell ⟨R, 3, none⟩ d).cell? ⟨g, o + k * 4 + 3, none⟩ = some (.int .i64 q.s) := by
  obtain ⟨h0, h1, h2, h3⟩ := h.at4 hq
  refine ⟨?_, ?_, ?_, ?_⟩
  · rw [cell_other _ hne, cell_other _ hne, cell_other _ hne, cell_other _ hne]; exact h0
  · rw [cell_other _ hne, cell_other _ hne, cell_other _ hne, cell_other _ hne]; exact h1
  · rw [cell_other _ hne, cell_other _ hne, cell_other _ hne, cell_other _ hne]; exact h2
  · rw [cell_other _ hne, cell_other _ hne, cell_other _ hne, cell_other _ hne]; exact h3
/-- A sample is stored over the result's block. -/
theorem ref_end {w W0 W W' : World} {R : Nat} {q : Sm} (x : Sm) (i3 : W.heap[R]? = some (.cells q.arr 31 (0, 0))) (h0 : Below w.heap.size w W0) (hB : Below W0.heap.size W0 W) (hR : w.heap.size ≤ R)
    (hW : W' = (((W.setCell ⟨R, 0, none⟩ (.int .i64 x.o)).setCell ⟨R, 1, none⟩ (.int .i64 x.d)).setCell ⟨R, 2, none⟩ (.int .i64 x.t)).setCell ⟨R, 3, none⟩ (.int .i64 x.s)) :
    W'.heap[R]? = some (.cells x.arr 31 (0, 0)) ∧ Below w.heap.size w W' := by
  have s1 := heap_setCell_same W R 0 (.int .i64 x.o) _ _ _ i3
  have s2 := heap_setCell_same _ R 1 (.int .i64 x.d) _ _ _ s1
  have s3 := heap_setCell_same _ R 2 (.int .i64 x.t) _ _ _ s2
  have s4 := heap_setCell_same _ R 3 (.int .i64 x.s) _ _ _ s3
  have t1 := Only2.one R R (.inl rfl) W 0 (.int .i64 x.o)
  have t2 := t1.trans (Only2.one R R (.inl rfl) _ 1 (.int .i64 x.d))
  have t3 := t2.trans (Only2.one R R (.inl rfl) _ 2 (.int .i64 x.t))
  have t4 := t3.trans (Only2.one R R (.inl rfl) _ 3 (.int .i64 x.s))
  rw [← hW] at t4 s4
  have hB' := bel_trans h0 hB
  exact ⟨s4, t4.os.trans hB'.os, t4.tape.trans hB'.tape, t4.output.trans hB'.output, by rw [t4.size]; exact hB'.size, fun k hk => (t4.same k (by omega) (by omega)).trans (hB'.block k hk)⟩

set_option maxRecDepth 100000 in
set_option maxHeartbeats 8000000 in
theorem rbest_any (A : Option Addr) (cap : Nat) (l0 : List Sm) (h life n : Int) (w : World) (hc1 : l0.length ≤ cap) (hc2 : cap ≤ maxLen) (hm : Sms w A l0) (hL : ∀ p ∈ l0, p.In)
    (hh1 : -9223372036854775808 ≤ h) (hh2 : h ≤ 9223372036854775807) (hn1 : -9223372036854775808 ≤ n) (hn2 : n ≤ 9223372036854775807) :
    Calls Try.prog 23 #[.slice A l0.length cap, .int .i64 h, .int .i64 life, .int .i64 n] w fun e w' =>
      e = .returned (.tuple #[(bestSm (bestOf h life (last8 l0))).val, .int .i64 (bestNow (bestOf h life (last8 l0)) n), .bool (bestOf h life (last8 l0)).isSome]) ∧ Below w.heap.size w w' := by
  obtain ⟨W0, hW0⟩ : ∃ W0, W0 = w.alloc (.cells Sm.zero.arr 31) := ⟨_, rfl⟩
  have hbW : Below w.heap.size w W0 := by rw [hW0]; exact (Below.refl _ _).alloc (Nat.le_refl _) _
  have gR : W0.heap[w.heap.size]? = some (.cells Sm.zero.arr 31 (0, 0)) := by rw [hW0]; exact heap_alloc_new w _
  have KL := Lib.hid (rlast_any A cap l0 w W0 hc1 hc2 hm)
  have HL := Lib.hid (fun p hp => hL p (mem_last8 hp))
  have HW := Lib.hid (And.intro hbW gR)
  have hl8 : (last8 l0).length ≤ 8 := by rw [length_last8]; omega
  clear hm hL hbW gR
  generalize last8 l0 = l at *
  go_enter Try.func23, Try.ntmps23
  go_wp2_with fail
  rw [show w.alloc (.cells #[.int .i64 0, .int .i64 0, .int .i64 0, .int .i64 0] 31) = W0 from hW0.symm]
  clear hW0
  refine KL.out.mono ?_
  rintro e w1 ⟨⟨A', cap', rfl, hc1', hc2', hS⟩, rfl⟩
  have HS0 := Lib.hid hS
  have HS := Lib.hid (hS.later HW.out.1)
  have m1 : cap' ≤ 9223372036854775807 := by unfold maxLen at hc2'; omega
  clear hS KL hc2' hc1 hc2
  obtain ⟨m, hm⟩ : ∃ m, m = l.length := ⟨_, rfl⟩
  rw [← hm] at hc1' hl8 ⊢
  have HM := Lib.hid hm
  clear hm
  go_wp2_with fail
  go_loopw [11] (fun v11 wr => ∃ i : Nat, i ≤ m ∧ v11 = .int .i64 ((i : Int) - 1) ∧ Hid (Below W0.heap.size W0 wr ∧ ∀ j q, i ≤ j → l[j]? = some q → ¬ Top h life l q)) (fun s _ => (intOf s + 1).toNat)
  case atStart => exact ⟨m, Nat.le_refl _, rfl, Lib.hid ⟨Below.refl _ _, fun j q hj hq => absurd ((List.getElem?_eq_some_iff.1 hq).1) (by have := HM.out; omega)⟩⟩
  case round =>
    obtain ⟨i, hi, rfl, R⟩ := hrel
    by_cases hi0 : i = 0
    · subst hi0
      have gR := (R.out.1.block _ (heap_lt HW.out.2)).trans HW.out.2
      obtain ⟨⟨y0, y1, y2, y3⟩, ⟨g0, g1, g2, g3⟩⟩ := cells4 gR
      have GR := Lib.hid gR
      clear gR
      go_wp2_with fail
      obtain ⟨e2, e3⟩ := ref_end Sm.zero GR.out HW.out.1 R.out.1 (Nat.le_refl _) rfl
      have hb := doc_none fun j q => R.out.2 j q (Nat.zero_le _)
      refine bodyPost_ret (results_c3 rfl _ _ w.heap.size 31 _ (0, 0) _ rfl e2 Try.underlying31 rfl (by kernel_rfl)) rfl ?_
      exact ⟨by rw [hb]; rfl, e3⟩
    · obtain ⟨i, rfl⟩ : ∃ i', i = i' + 1 := ⟨i - 1, by omega⟩
      have ei : ((i + 1 : Nat) : Int) - 1 = (i : Int) := by omega
      rw [ei]
      clear ei hi0
      obtain ⟨p, hp⟩ : ∃ p, l[i]? = some p := ⟨_, List.getElem?_eq_getElem (by have := HM.out; omega)⟩
      obtain ⟨g, o, rfl, hg, x0, x1, x2, x3⟩ := (HS.out.later R.out.1) i p hp
      have hpi := HL.out p (List.mem_of_getElem? hp)
      by_cases hf : isFresh h life p = true
      · go_wp2_with fail
        refine (rfresh_any p.o p.d p.t p.s h life _ hpi.t1 hpi.t2 hh1 hh2).mono ?_
        rw [show freshOf p.t h life = true from hf]
        rintro e w2 ⟨rfl, hb2⟩
        have R2 := Lib.hid (bel_trans R.out.1 hb2)
        clear hb2 x0 x1 x2 x3 hg
        go_wp2_with fail
        go_loopw [12, 13] (fun v12 v13 wk => ∃ (k : Nat) (b : Bool), k ≤ m ∧ v12 = .bool b ∧ v13 = .int .i64 (k : Int) ∧ Hid (Below W0.heap.size W0 wk ∧ (b = true ↔ ∀ j q, j < k → l[j]? = some q → isFresh h life q = true → better q p = false))) (fun _ s _ => m - (intOf s).toNat)
        case atStart => exact ⟨0, true, Nat.zero_le _, rfl, rfl, Lib.hid ⟨R2.out, by simp⟩⟩
        case round =>
          obtain ⟨k, b, hk, rfl, rfl, Rk⟩ := hrel
          by_cases hkm : k < m
          · obtain ⟨q, hq⟩ : ∃ q, l[k]? = some q := ⟨_, List.getElem?_eq_getElem (by have := HM.out; omega)⟩
            have hqi := HL.out q (List.mem_of_getElem? hq)
            have PF := Lib.hid (fun W' (hb : Below W0.heap.size W0 W') => And.intro ((HS.out.later hb).at4 hq) ((HS.out.later hb).at4 hp))
            have M0 := Lib.hid Rk.out.1
            have bi : i < m := by omega
            have bi2 : (i : Int) < (m : Int) := by omega
            have bi3 : (0 : Int) ≤ (i : Int) := by omega
            have next : ∀ b', (b' = true ↔ b = true ∧ (isFresh h life q = true → better q p = false)) → (b' = true ↔ ∀ j q, j < k + 1 → l[j]? = some q → isFresh h life q = true → better q p = false) := fun b' hb' => by
              rw [hb', Rk.out.2]
              constructor
              · rintro ⟨h1, h2⟩ j q' hj hq' hf'
                by_cases hjk : j = k
                · subst hjk
                  rw [hq] at hq'
                  injection hq' with hq'
                  subst hq'
                  exact h2 hf'
                · exact h1 j q' (by omega) hq' hf'
              · intro h1
                exact ⟨fun j q' hj => h1 j q' (by omega), h1 k q (by omega) hq⟩
            have NX := Lib.hid next
            clear next
            by_cases hfq : isFresh h life q = true
            · have F17 : Hid (∀ W, Calls Try.prog 29 #[.agg #[.int .i64 q.o, .int .i64 q.d, .int .i64 q.t, .int .i64 q.s], .int .i64 h, .int .i64 life] W fun e w' => e = .returned (.bool true) ∧ Below W.heap.size W w') := Lib.hid fun W => by
                have := rfresh_any q.o q.d q.t q.s h life W hqi.t1 hqi.t2 hh1 hh2
                rwa [show freshOf q.t h life = true from hfq] at this
              have F24 := Lib.hid (fun W => rbetter_any q.o q.d q.t q.s p.o p.d p.t p.s W)
              cases hbq : better q p with
              | true =>
                rw [show bet q.d q.t p.d p.t = true from hbq] at F24
                go_wp2_with fail
                go_region_held3 (fun w' => (w'.cell? ⟨g, o + k * 4, none⟩ = some (.int .i64 q.o) ∧ w'.cell? ⟨g, o + k * 4 + 1, none⟩ = some (.int .i64 q.d) ∧ w'.cell? ⟨g, o + k * 4 + 2, none⟩ = some (.int .i64 q.t) ∧ w'.cell? ⟨g, o + k * 4 + 3, none⟩ = some (.int .i64 q.s)) ∧ (w'.cell? ⟨g, o + i * 4, none⟩ = some (.int .i64 p.o) ∧ w'.cell? ⟨g, o + i * 4 + 1, none⟩ = some (.int .i64 p.d) ∧ w'.cell? ⟨g, o + i * 4 + 2, none⟩ = some (.int .i64 p.t) ∧ w'.cell? ⟨g, o + i * 4 + 3, none⟩ = some (.int .i64 p.s)))
                (first | exact PF.out _ M2.out | exact PF.out _ M1.out | exact PF.out _ (below_drew M0.out))
                (first | (go_at_call 30; refine (F24.out _).mono ?_; rintro e z2 ⟨rfl, h2⟩; have M2 := Lib.hid (bel_trans M1.out h2); clear h2) | (go_at_call 29; refine (F17.out _).mono ?_; rintro e z1 ⟨rfl, h1⟩; have M1 := Lib.hid (bel_trans (below_drew M0.out) h1); clear h1))
                go_wp2
                refine ⟨⟨k + 1, false, by omega, rfl, by go_num, Lib.hid ⟨M2.out, NX.out false (by simp [hfq, hbq])⟩⟩, ?_⟩
                simp [intOf]; omega
              | false =>
                rw [show bet q.d q.t p.d p.t = false from hbq] at F24
                go_wp2_with fail
                go_region_held3 (fun w' => (w'.cell? ⟨g, o + k * 4, none⟩ = some (.int .i64 q.o) ∧ w'.cell? ⟨g, o + k * 4 + 1, none⟩ = some (.int .i64 q.d) ∧ w'.cell? ⟨g, o + k * 4 + 2, none⟩ = some (.int .i64 q.t) ∧ w'.cell? ⟨g, o + k * 4 + 3, none⟩ = some (.int .i64 q.s)) ∧ (w'.cell? ⟨g, o + i * 4, none⟩ = some (.int .i64 p.o) ∧ w'.cell? ⟨g, o + i * 4 + 1, none⟩ = some (.int .i64 p.d) ∧ w'.cell? ⟨g, o + i * 4 + 2, none⟩ = some (.int .i64 p.t) ∧ w'.cell? ⟨g, o + i * 4 + 3, none⟩ = some (.int .i64 p.s)))
                (first | exact PF.out _ M2.out | exact PF.out _ M1.out | exact PF.out _ (below_drew M0.out))
                (first | (go_at_call 30; refine (F24.out _).mono ?_; rintro e z2 ⟨rfl, h2⟩; have M2 := Lib.hid (bel_trans M1.out h2); clear h2) | (go_at_call 29; refine (F17.out _).mono ?_; rintro e z1 ⟨rfl, h1⟩; have M1 := Lib.hid (bel_trans (below_drew M0.out) h1); clear h1))
                go_wp2
                refine ⟨⟨k + 1, b, by omega, rfl, by go_num, Lib.hid ⟨M2.out, NX.out b (by simp [hbq])⟩⟩, ?_⟩
                simp [intOf]; omega
            · have F17 : Hid (∀ W, Calls Try.prog 29 #[.agg #[.int .i64 q.o, .int .i64 q.d, .int .i64 q.t, .int .i64 q.s], .int .i64 h, .int .i64 life] W fun e w' => e = .returned (.bool false) ∧ Below W.heap.size W w') := Lib.hid fun W => by
                have := rfresh_any q.o q.d q.t q.s h life W hqi.t1 hqi.t2 hh1 hh2
                rwa [show freshOf q.t h life = false by simpa [isFresh] using hfq] at this
              obtain ⟨y0, y1, y2, y3⟩ := (PF.out _ Rk.out.1).1
              have n0 := fun d os => cell_regrown y0 d os
              have n1 := fun d os => cell_regrown y1 d os
              have n2 := fun d os => cell_regrown y2 d os
              have n3 := fun d os => cell_regrown y3 d os
              have c17 : ∀ d os, Calls Try.prog 29 #[.agg #[.int .i64 q.o, .int .i64 q.d, .int .i64 q.t, .int .i64 q.s], .int .i64 h, .int .i64 life] (Sort.grow (redrawn wr d) os) fun e w'' => e = .returned (.bool false) ∧ ∃ p : Regrown, w'' = Sort.grow (redrawn wr p.d) p.os := fun d os => Calls.regrown_of (F17.out _)
              clear y0 y1 y2 y3
              go_wp2_with fail
              refine wp_region_quiet_below (by kernel_rfl) (by kernel_rfl) ?_
              repeat (go_big_quiet_step (with_reducible exact c17 _ _))
              refine wpQuiet_nil ?_
              intro _ hw'
              obtain ⟨⟨dq, osq⟩, hw''⟩ := hw'
              have M1 := Lib.hid (M0.out.trans ((below_regrown wr dq osq).mono M0.out.size))
              obtain ⟨w3, hw3⟩ : ∃ w3, w3 = Sort.grow (redrawn wr dq) osq := ⟨_, rfl⟩
              rw [← hw3] at hw'' M1
              subst hw''
              clear hw3 c17 n0 n1 n2 n3
              go_wp2
              refine ⟨⟨k + 1, b, by omega, rfl, by go_num, Lib.hid ⟨M1.out, NX.out b (by simp [hfq])⟩⟩, ?_⟩
              simp [intOf]; omega
          · obtain rfl : k = m := by omega
            have hT : b = true ↔ Top h life l p := by
              rw [Rk.out.2]
              constructor
              · intro h1
                refine ⟨hf, fun q hq hfq => ?_⟩
                obtain ⟨j, hj, rfl⟩ := List.getElem_of_mem hq
                exact h1 j _ (by have := HM.out; omega) (List.getElem?_eq_getElem hj) hfq
              · intro h1 j q _ hq hfq
                exact h1.2 q (List.mem_of_getElem? hq) hfq
            cases b with
            | true =>
              have hbst := doc_some hp (hT.1 rfl) (fun j q hj hq => R.out.2 j q (by omega) hq)
              have gR := (Rk.out.1.block _ (heap_lt HW.out.2)).trans HW.out.2
              obtain ⟨x0, x1, x2, x3⟩ := (HS.out.later Rk.out.1).at4 hp
              obtain ⟨⟨y0, y1, y2, y3⟩, ⟨g0, g1, g2, g3⟩⟩ := cells4 gR
              have GR := Lib.hid gR
              have F18 := Lib.hid (fun W => rnow_any p.o p.d p.t p.s n W hpi.o1 hpi.o2 hpi.s1 hpi.s2 hn1 hn2)
              clear gR hT
              have bi : i < k := by omega
              have bi2 : (i : Int) < (k : Int) := by omega
              have bi3 : (0 : Int) ≤ (i : Int) := by omega
              go_wp2_with fail
              have hgR : g ≠ w.heap.size := by
                obtain ⟨g', o', e, hg', _⟩ := HS0.out i p hp
                injection e with e
                injection e with e1 _ _
                omega
              have PS := Lib.hid (fun W' (hb : Below W0.heap.size W0 W') (a b c d : Value) => (HS.out.later hb).at4_set hp hgR a b c d)
              have PF := Lib.hid (fun W' (hb : Below W0.heap.size W0 W') => (HS.out.later hb).at4 hp)
              clear x0 x1 x2 x3 y0 y1 y2 y3 g0 g1 g2 g3
              go_region_held3 (fun w' => w'.cell? ⟨g, o + i * 4, none⟩ = some (.int .i64 p.o) ∧ w'.cell? ⟨g, o + i * 4 + 1, none⟩ = some (.int .i64 p.d) ∧ w'.cell? ⟨g, o + i * 4 + 2, none⟩ = some (.int .i64 p.t) ∧ w'.cell? ⟨g, o + i * 4 + 3, none⟩ = some (.int .i64 p.s))
                (first | with_reducible exact PF.out _ (below_drew Rk.out.1) | with_reducible exact PF.out _ M1.out | with_reducible exact PS.out _ M1.out _ _ _ _)
                (first | (go_at_call 31; refine (F18.out _).mono ?_; rintro e z1 ⟨rfl, h1⟩; have M1 := Lib.hid (bel_trans (below_drew Rk.out.1) h1); have GZ := Lib.hid ((M1.out.block _ (heap_lt HW.out.2)).trans HW.out.2); obtain ⟨⟨v0, v1, v2, v3⟩, ⟨e0, e1, e2, e3⟩⟩ := cells4 GZ.out; clear h1))
              all_goals (
                go_wp2
                obtain ⟨r2, r3⟩ := ref_end p GZ.out HW.out.1 M1.out (Nat.le_refl _) rfl
                refine bodyPost_ret (results_c3 rfl _ _ w.heap.size 31 _ (0, 0) _ rfl r2 Try.underlying31 rfl (by kernel_rfl)) rfl ?_
                exact ⟨by rw [hbst]; rfl, r3⟩)
            | false =>
              go_wp2
              refine ⟨⟨i, by omega, by go_num, Lib.hid ⟨Rk.out.1, fun j q hj hq ht => ?_⟩⟩, ?_⟩
              · by_cases hji : j = i
                · subst hji
                  rw [hp] at hq
                  injection hq with hq
                  subst hq
                  exact absurd (hT.2 ht) (by simp)
                · exact R.out.2 j q (by omega) hq ht
              · simp [intOf]
      · go_wp2_with fail
        refine (rfresh_any p.o p.d p.t p.s h life _ hpi.t1 hpi.t2 hh1 hh2).mono ?_
        rw [show freshOf p.t h life = false by simpa [isFresh] using hf]
        rintro e w2 ⟨rfl, hb2⟩
        have R2 := Lib.hid (bel_trans R.out.1 hb2)
        clear hb2 x0 x1 x2 x3 hg
        go_wp2
        refine ⟨⟨i, by omega, by go_num, Lib.hid ⟨R2.out, fun j q hj hq ht => ?_⟩⟩, ?_⟩
        · by_cases hji : j = i
          · subst hji
            rw [hp] at hq
            injection hq with hq
            subst hq
            exact hf ht.1
          · exact R.out.2 j q (by omega) hq ht
        · simp [intOf]
end Go.Proofs.Ytcmmhgalnfleoaa
