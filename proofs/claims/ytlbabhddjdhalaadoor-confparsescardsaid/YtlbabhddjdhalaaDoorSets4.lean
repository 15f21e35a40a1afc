/- What each word does, as the closures do it. -/
import Derived.Test.YtlbabhddjdhalaaDoorSets3
namespace Go.Proofs.YtlbabhddjdhalaaDoor
open Go.RowKit Go.Proofs.Lx

def srvC (c : Cfg) (ws : List Bs) : Nat × Cfg := if (numbersOf ws 1).2 = 0 then addS c ((numbersOf ws 1).1.headD 0) else ((numbersOf ws 1).2, c)
def onceC (set : Cfg → List Int → Cfg) (k : Nat) (again : Bool) (c : Cfg) (ws : List Bs) : Nat × Cfg := if (numbersOf ws k).2 = 0 then (if again then (12, c) else (0, set c (numbersOf ws k).1)) else ((numbersOf ws k).2, c)
theorem kp_below {H bc : Nat} {w w1 w2 : World} (hb : Below w.heap.size w w1) (hH : H ≤ w.heap.size) (hk : Kp H bc w1 w2) : Kp H bc w w2 := (Kp.of_below hb hH (Nat.le_refl _)).trans hk

set_option maxRecDepth 100000 in
set_option maxHeartbeats 1000000 in
theorem server_any (v : Value) (ws : List Bs) (b : Bool) (bx bc H : Nat) (c : Cfg) (w : World) (hv : Txts w v ws) (hws : ws.length ≤ 1000000) (hx : w.cell? ⟨bx, 0, none⟩ = some (.pointer (some ⟨bc, 0, none⟩))) (hc : Cell w H bc c) (hlt : bc < H) (hH : H ≤ w.heap.size) (hl : c.S.length ≤ 16) :
    Calls Tryd.prog 48 #[v, .bool b, .pointer (some ⟨bx, 0, none⟩)] w fun e w' => AddPost w H bc (srvC c ws) e w' := by
  have K := Lib.hid (numbers_any v ws 1 w hv hws)
  have HX := Lib.hid hx
  have HC := Lib.hid hc
  obtain ⟨A, cp, rfl, _⟩ := hv.len
  obtain ⟨N, hN⟩ : ∃ N, N = ws.length := ⟨_, rfl⟩
  rw [← hN] at K ⊢
  clear hv hx hc hws hN
  have hbx : bx < w.heap.size := World.block_lt_of_cell? _ _ HX.out
  obtain ⟨xs, e0, he0⟩ : ∃ xs e0, numbersOf ws 1 = (xs, e0) := ⟨_, _, rfl⟩
  have KN : Hid (∀ e w', NumPost w ws 1 e w' → ∃ u, e = .returned (.tuple #[u, .int .i64 (e0 : Nat)]) ∧ Row w' w.heap.size u xs ∧ Below w.heap.size w w') := fun e w' h => by
    obtain ⟨u, h1, h2, h3⟩ := h
    rw [he0] at h1 h2
    exact ⟨u, h1, h2, h3⟩
  by_cases hz : e0 = 0
  · subst hz
    have HS : Hid (srvC c ws = addS c (xs.headD 0)) := by
      show srvC c ws = _
      unfold srvC; rw [he0]; rfl
    have hlen : xs.length = 1 := by
      have := numbersOf_len ws 1 (by rw [he0])
      rw [he0] at this; exact this
    obtain ⟨x, rfl⟩ : ∃ x, xs = [x] := List.length_eq_one_iff.1 hlen
    clear hlen he0
    go_enter Tryd.func48, Tryd.ntmps48
    go_wp2_with (go_at_call 49; refine K.out.mono ?_; intro e w1 h1; obtain ⟨u, rfl, hr1, hb1⟩ := KN.out e w1 h1; have hbs := hb1.size; have hx1 := (hb1.cell (p := ⟨bx, 0, none⟩) hbx).trans HX.out; have HC1 := Lib.hid (HC.out.below hb1 (Nat.le_refl _)); obtain ⟨A1, c1, rfl, hc1⟩ := hr1.ints.len; obtain ⟨g, o, rfl, hg, hcell⟩ := hr1.ints.at_ 0 (by simp); simp only [List.length_cons, List.length_nil, Nat.zero_add, List.getElem_cons_zero, Nat.add_zero] at hcell hc1 ⊢; clear h1 hr1)
    refine still_tail 4 (by kernel_rfl) (by kernel_rfl) ?_
    simp only [List.take_succ_cons, List.take_zero, List.drop_succ_cons, List.drop_zero]
    repeat still_step
    refine wpStill_nil ?_
    have HC2 : Hid (Cell w1.drew H bc c) := HC1.out
    obtain ⟨W, hW⟩ : ∃ W, W = w1.drew := ⟨_, rfl⟩
    have hKW : Hid (∀ w2, Kp H bc W w2 → Kp H bc w w2) := fun w2 h => by
      rw [hW] at h
      exact kp_below (w1 := w1.drew) hb1.drew hH h
    have hsz : H ≤ W.heap.size := by rw [hW]; show H ≤ w1.heap.size; omega
    rw [← hW] at HC2 ⊢
    clear hW
    go_wp2_with (go_at_call 50; refine (addServer_any x bc H c W HC2.out hlt hsz hl).mono ?_; rintro e w2 ⟨rfl, hc2, hk2⟩)
    go_ret
    refine ⟨by rw [HS.out]; rfl, by rw [HS.out]; exact hc2, hKW.out _ hk2⟩
  · have HS : Hid (srvC c ws = (e0, c)) := by
      show srvC c ws = _
      unfold srvC; rw [he0]; exact if_neg hz
    have t1 : ((e0 : Int) != 0) = true := by simp; omega
    clear he0 hz
    go_enter Tryd.func48, Tryd.ntmps48
    go_wp2_with (go_at_call 49; refine K.out.mono ?_; intro e w1 h1; obtain ⟨u, rfl, hr1, hb1⟩ := KN.out e w1 h1; obtain ⟨A1, c1, rfl, hc1⟩ := hr1.ints.len; clear h1)
    go_ret
    exact ap_of HS.out (HC.out.below hb1 (Nat.le_refl _)) (Kp.of_below hb1 hH (Nat.le_refl _))

set_option maxRecDepth 100000 in
set_option maxHeartbeats 1000000 in
theorem quorum_any (v : Value) (ws : List Bs) (again : Bool) (p1 p2 bx bc H : Nat) (c : Cfg) (w : World) (hv : Txts w v ws) (hws : ws.length ≤ 1000000) (h1 : w.cell? ⟨p1, 0, none⟩ = some (.int .i64 1)) (h2 : w.cell? ⟨p2, 0, none⟩ = some (.func (.func 52) #[] #[.pointer (some ⟨bx, 0, none⟩)])) (hx : w.cell? ⟨bx, 0, none⟩ = some (.pointer (some ⟨bc, 0, none⟩))) (hc : Cell w H bc c) (hlt : bc < H) (hH : H ≤ w.heap.size) :
    Calls Tryd.prog 68 #[v, .bool again, .pointer (some ⟨p1, 0, none⟩), .pointer (some ⟨p2, 0, none⟩)] w fun e w' => AddPost w H bc (onceC setQ 1 again c ws) e w' := by
  have K := Lib.hid (numbers_any v ws 1 w hv hws)
  have HX := Lib.hid hx
  have H2 := Lib.hid h2
  have HC := Lib.hid hc
  obtain ⟨A, cp, rfl, _⟩ := hv.len
  obtain ⟨N, hN⟩ : ∃ N, N = ws.length := ⟨_, rfl⟩
  rw [← hN] at K ⊢
  clear hv hx hc hws hN h2
  have hbx : bx < w.heap.size := World.block_lt_of_cell? _ _ HX.out
  have hbp : p2 < w.heap.size := World.block_lt_of_cell? _ _ H2.out
  obtain ⟨xs, e0, he0⟩ : ∃ xs e0, numbersOf ws 1 = (xs, e0) := ⟨_, _, rfl⟩
  have KN : Hid (∀ e w', NumPost w ws 1 e w' → ∃ u, e = .returned (.tuple #[u, .int .i64 (e0 : Nat)]) ∧ Row w' w.heap.size u xs ∧ Below w.heap.size w w') := fun e w' h => by
    obtain ⟨u, h1, h2, h3⟩ := h
    rw [he0] at h1 h2
    exact ⟨u, h1, h2, h3⟩
  by_cases hz : e0 = 0
  · subst hz
    have hlen : xs.length = 1 := by
      have := numbersOf_len ws 1 (by rw [he0])
      rw [he0] at this; exact this
    cases again with
    | true =>
      have HS : Hid (onceC setQ 1 true c ws = (12, c)) := by
        show onceC setQ 1 true c ws = _
        unfold onceC; rw [he0]; rfl
      clear hlen he0
      go_enter Tryd.func68, Tryd.ntmps68
      go_wp2_with (go_at_call 49; refine K.out.mono ?_; intro e w1 h1; obtain ⟨u, rfl, hr1, hb1⟩ := KN.out e w1 h1; obtain ⟨A1, c1, rfl, hc1⟩ := hr1.ints.len; clear h1)
      go_ret
      exact ap_of HS.out (HC.out.below hb1 (Nat.le_refl _)) (Kp.of_below hb1 hH (Nat.le_refl _))
    | false =>
      have HS : Hid (onceC setQ 1 false c ws = (0, setQ c xs)) := by
        show onceC setQ 1 false c ws = _
        unfold onceC; rw [he0]; rfl
      have HL := Lib.hid hlen
      clear hlen he0
      go_enter Tryd.func68, Tryd.ntmps68
      go_wp2_with (first
        | (go_at_call 49; refine K.out.mono ?_; intro e w1 h1; obtain ⟨u, rfl, hr1, hb1⟩ := KN.out e w1 h1; have hx1 := Lib.hid ((hb1.cell (p := ⟨bx, 0, none⟩) hbx).trans HX.out); have hx2 := (hb1.cell (p := ⟨p2, 0, none⟩) hbp).trans H2.out; have hbs := hb1.size; have HC1 := Lib.hid (HC.out.below hb1 (Nat.le_refl _)); have HR1 := Lib.hid hr1; obtain ⟨A1, c1, rfl, hc1⟩ := hr1.ints.len; clear h1 hr1)
        | (go_at_call 52; refine (setQ_any _ xs bx bc H c w1 HR1.out.ints HL.out hx1.out HC1.out hlt).mono ?_; rintro e w2 ⟨rfl, hc2, hk2⟩))
      go_ret
      exact ap_of HS.out hc2 (kp_below hb1 hH hk2)
  · have HS : Hid (onceC setQ 1 again c ws = (e0, c)) := by
      show onceC setQ 1 again c ws = _
      unfold onceC; rw [he0]; exact if_neg hz
    have t1 : ((e0 : Int) != 0) = true := by simp; omega
    clear he0 hz
    go_enter Tryd.func68, Tryd.ntmps68
    go_wp2_with (go_at_call 49; refine K.out.mono ?_; intro e w1 h1; obtain ⟨u, rfl, hr1, hb1⟩ := KN.out e w1 h1; obtain ⟨A1, c1, rfl, hc1⟩ := hr1.ints.len; clear h1)
    go_ret
    exact ap_of HS.out (HC.out.below hb1 (Nat.le_refl _)) (Kp.of_below hb1 hH (Nat.le_refl _))

set_option maxRecDepth 100000 in
set_option maxHeartbeats 1000000 in
theorem poll_any (v : Value) (ws : List Bs) (again : Bool) (p1 p2 bx bc H : Nat) (c : Cfg) (w : World) (hv : Txts w v ws) (hws : ws.length ≤ 1000000) (h1 : w.cell? ⟨p1, 0, none⟩ = some (.int .i64 2)) (h2 : w.cell? ⟨p2, 0, none⟩ = some (.func (.func 53) #[] #[.pointer (some ⟨bx, 0, none⟩)])) (hx : w.cell? ⟨bx, 0, none⟩ = some (.pointer (some ⟨bc, 0, none⟩))) (hc : Cell w H bc c) (hlt : bc < H) (hH : H ≤ w.heap.size) :
    Calls Tryd.prog 68 #[v, .bool again, .pointer (some ⟨p1, 0, none⟩), .pointer (some ⟨p2, 0, none⟩)] w fun e w' => AddPost w H bc (onceC setP 2 again c ws) e w' := by
  have K := Lib.hid (numbers_any v ws 2 w hv hws)
  have HX := Lib.hid hx
  have H2 := Lib.hid h2
  have HC := Lib.hid hc
  obtain ⟨A, cp, rfl, _⟩ := hv.len
  obtain ⟨N, hN⟩ : ∃ N, N = ws.length := ⟨_, rfl⟩
  rw [← hN] at K ⊢
  clear hv hx hc hws hN h2
  have hbx : bx < w.heap.size := World.block_lt_of_cell? _ _ HX.out
  have hbp : p2 < w.heap.size := World.block_lt_of_cell? _ _ H2.out
  obtain ⟨xs, e0, he0⟩ : ∃ xs e0, numbersOf ws 2 = (xs, e0) := ⟨_, _, rfl⟩
  have KN : Hid (∀ e w', NumPost w ws 2 e w' → ∃ u, e = .returned (.tuple #[u, .int .i64 (e0 : Nat)]) ∧ Row w' w.heap.size u xs ∧ Below w.heap.size w w') := fun e w' h => by
    obtain ⟨u, h1, h2, h3⟩ := h
    rw [he0] at h1 h2
    exact ⟨u, h1, h2, h3⟩
  by_cases hz : e0 = 0
  · subst hz
    have hlen : xs.length = 2 := by
      have := numbersOf_len ws 2 (by rw [he0])
      rw [he0] at this; exact this
    cases again with
    | true =>
      have HS : Hid (onceC setP 2 true c ws = (12, c)) := by
        show onceC setP 2 true c ws = _
        unfold onceC; rw [he0]; rfl
      clear hlen he0
      go_enter Tryd.func68, Tryd.ntmps68
      go_wp2_with (go_at_call 49; refine K.out.mono ?_; intro e w1 h1; obtain ⟨u, rfl, hr1, hb1⟩ := KN.out e w1 h1; obtain ⟨A1, c1, rfl, hc1⟩ := hr1.ints.len; clear h1)
      go_ret
      exact ap_of HS.out (HC.out.below hb1 (Nat.le_refl _)) (Kp.of_below hb1 hH (Nat.le_refl _))
    | false =>
      have HS : Hid (onceC setP 2 false c ws = (0, setP c xs)) := by
        show onceC setP 2 false c ws = _
        unfold onceC; rw [he0]; rfl
      have HL := Lib.hid hlen
      clear hlen he0
      go_enter Tryd.func68, Tryd.ntmps68
      go_wp2_with (first
        | (go_at_call 49; refine K.out.mono ?_; intro e w1 h1; obtain ⟨u, rfl, hr1, hb1⟩ := KN.out e w1 h1; have hx1 := Lib.hid ((hb1.cell (p := ⟨bx, 0, none⟩) hbx).trans HX.out); have hx2 := (hb1.cell (p := ⟨p2, 0, none⟩) hbp).trans H2.out; have hbs := hb1.size; have HC1 := Lib.hid (HC.out.below hb1 (Nat.le_refl _)); have HR1 := Lib.hid hr1; obtain ⟨A1, c1, rfl, hc1⟩ := hr1.ints.len; clear h1 hr1)
        | (go_at_call 53; refine (setP_any _ xs bx bc H c w1 HR1.out.ints HL.out hx1.out HC1.out hlt).mono ?_; rintro e w2 ⟨rfl, hc2, hk2⟩))
      go_ret
      exact ap_of HS.out hc2 (kp_below hb1 hH hk2)
  · have HS : Hid (onceC setP 2 again c ws = (e0, c)) := by
      show onceC setP 2 again c ws = _
      unfold onceC; rw [he0]; exact if_neg hz
    have t1 : ((e0 : Int) != 0) = true := by simp; omega
    clear he0 hz
    go_enter Tryd.func68, Tryd.ntmps68
    go_wp2_with (go_at_call 49; refine K.out.mono ?_; intro e w1 h1; obtain ⟨u, rfl, hr1, hb1⟩ := KN.out e w1 h1; obtain ⟨A1, c1, rfl, hc1⟩ := hr1.ints.len; clear h1)
    go_ret
    exact ap_of HS.out (HC.out.below hb1 (Nat.le_refl _)) (Kp.of_below hb1 hH (Nat.le_refl _))

set_option maxRecDepth 100000 in
set_option maxHeartbeats 1000000 in
theorem delay_any (v : Value) (ws : List Bs) (again : Bool) (p1 p2 bx bc H : Nat) (c : Cfg) (w : World) (hv : Txts w v ws) (hws : ws.length ≤ 1000000) (h1 : w.cell? ⟨p1, 0, none⟩ = some (.int .i64 1)) (h2 : w.cell? ⟨p2, 0, none⟩ = some (.func (.func 54) #[] #[.pointer (some ⟨bx, 0, none⟩)])) (hx : w.cell? ⟨bx, 0, none⟩ = some (.pointer (some ⟨bc, 0, none⟩))) (hc : Cell w H bc c) (hlt : bc < H) (hH : H ≤ w.heap.size) :
    Calls Tryd.prog 68 #[v, .bool again, .pointer (some ⟨p1, 0, none⟩), .pointer (some ⟨p2, 0, none⟩)] w fun e w' => AddPost w H bc (onceC setD 1 again c ws) e w' := by
  have K := Lib.hid (numbers_any v ws 1 w hv hws)
  have HX := Lib.hid hx
  have H2 := Lib.hid h2
  have HC := Lib.hid hc
  obtain ⟨A, cp, rfl, _⟩ := hv.len
  obtain ⟨N, hN⟩ : ∃ N, N = ws.length := ⟨_, rfl⟩
  rw [← hN] at K ⊢
  clear hv hx hc hws hN h2
  have hbx : bx < w.heap.size := World.block_lt_of_cell? _ _ HX.out
  have hbp : p2 < w.heap.size := World.block_lt_of_cell? _ _ H2.out
  obtain ⟨xs, e0, he0⟩ : ∃ xs e0, numbersOf ws 1 = (xs, e0) := ⟨_, _, rfl⟩
  have KN : Hid (∀ e w', NumPost w ws 1 e w' → ∃ u, e = .returned (.tuple #[u, .int .i64 (e0 : Nat)]) ∧ Row w' w.heap.size u xs ∧ Below w.heap.size w w') := fun e w' h => by
    obtain ⟨u, h1, h2, h3⟩ := h
    rw [he0] at h1 h2
    exact ⟨u, h1, h2, h3⟩
  by_cases hz : e0 = 0
  · subst hz
    have hlen : xs.length = 1 := by
      have := numbersOf_len ws 1 (by rw [he0])
      rw [he0] at this; exact this
    cases again with
    | true =>
      have HS : Hid (onceC setD 1 true c ws = (12, c)) := by
        show onceC setD 1 true c ws = _
        unfold onceC; rw [he0]; rfl
      clear hlen he0
      go_enter Tryd.func68, Tryd.ntmps68
      go_wp2_with (go_at_call 49; refine K.out.mono ?_; intro e w1 h1; obtain ⟨u, rfl, hr1, hb1⟩ := KN.out e w1 h1; obtain ⟨A1, c1, rfl, hc1⟩ := hr1.ints.len; clear h1)
      go_ret
      exact ap_of HS.out (HC.out.below hb1 (Nat.le_refl _)) (Kp.of_below hb1 hH (Nat.le_refl _))
    | false =>
      have HS : Hid (onceC setD 1 false c ws = (0, setD c xs)) := by
        show onceC setD 1 false c ws = _
        unfold onceC; rw [he0]; rfl
      have HL := Lib.hid hlen
      clear hlen he0
      go_enter Tryd.func68, Tryd.ntmps68
      go_wp2_with (first
        | (go_at_call 49; refine K.out.mono ?_; intro e w1 h1; obtain ⟨u, rfl, hr1, hb1⟩ := KN.out e w1 h1; have hx1 := Lib.hid ((hb1.cell (p := ⟨bx, 0, none⟩) hbx).trans HX.out); have hx2 := (hb1.cell (p := ⟨p2, 0, none⟩) hbp).trans H2.out; have hbs := hb1.size; have HC1 := Lib.hid (HC.out.below hb1 (Nat.le_refl _)); have HR1 := Lib.hid hr1; obtain ⟨A1, c1, rfl, hc1⟩ := hr1.ints.len; clear h1 hr1)
        | (go_at_call 54; refine (setD_any _ xs bx bc H c w1 HR1.out.ints HL.out hx1.out HC1.out hlt).mono ?_; rintro e w2 ⟨rfl, hc2, hk2⟩))
      go_ret
      exact ap_of HS.out hc2 (kp_below hb1 hH hk2)
  · have HS : Hid (onceC setD 1 again c ws = (e0, c)) := by
      show onceC setD 1 again c ws = _
      unfold onceC; rw [he0]; exact if_neg hz
    have t1 : ((e0 : Int) != 0) = true := by simp; omega
    clear he0 hz
    go_enter Tryd.func68, Tryd.ntmps68
    go_wp2_with (go_at_call 49; refine K.out.mono ?_; intro e w1 h1; obtain ⟨u, rfl, hr1, hb1⟩ := KN.out e w1 h1; obtain ⟨A1, c1, rfl, hc1⟩ := hr1.ints.len; clear h1)
    go_ret
    exact ap_of HS.out (HC.out.below hb1 (Nat.le_refl _)) (Kp.of_below hb1 hH (Nat.le_refl _))

set_option maxRecDepth 100000 in
set_option maxHeartbeats 1000000 in
theorem slew_any (v : Value) (ws : List Bs) (again : Bool) (p1 p2 bx bc H : Nat) (c : Cfg) (w : World) (hv : Txts w v ws) (hws : ws.length ≤ 1000000) (h1 : w.cell? ⟨p1, 0, none⟩ = some (.int .i64 1)) (h2 : w.cell? ⟨p2, 0, none⟩ = some (.func (.func 55) #[] #[.pointer (some ⟨bx, 0, none⟩)])) (hx : w.cell? ⟨bx, 0, none⟩ = some (.pointer (some ⟨bc, 0, none⟩))) (hc : Cell w H bc c) (hlt : bc < H) (hH : H ≤ w.heap.size) :
    Calls Tryd.prog 68 #[v, .bool again, .pointer (some ⟨p1, 0, none⟩), .pointer (some ⟨p2, 0, none⟩)] w fun e w' => AddPost w H bc (onceC setSl 1 again c ws) e w' := by
  have K := Lib.hid (numbers_any v ws 1 w hv hws)
  have HX := Lib.hid hx
  have H2 := Lib.hid h2
  have HC := Lib.hid hc
  obtain ⟨A, cp, rfl, _⟩ := hv.len
  obtain ⟨N, hN⟩ : ∃ N, N = ws.length := ⟨_, rfl⟩
  rw [← hN] at K ⊢
  clear hv hx hc hws hN h2
  have hbx : bx < w.heap.size := World.block_lt_of_cell? _ _ HX.out
  have hbp : p2 < w.heap.size := World.block_lt_of_cell? _ _ H2.out
  obtain ⟨xs, e0, he0⟩ : ∃ xs e0, numbersOf ws 1 = (xs, e0) := ⟨_, _, rfl⟩
  have KN : Hid (∀ e w', NumPost w ws 1 e w' → ∃ u, e = .returned (.tuple #[u, .int .i64 (e0 : Nat)]) ∧ Row w' w.heap.size u xs ∧ Below w.heap.size w w') := fun e w' h => by
    obtain ⟨u, h1, h2, h3⟩ := h
    rw [he0] at h1 h2
    exact ⟨u, h1, h2, h3⟩
  by_cases hz : e0 = 0
  · subst hz
    have hlen : xs.length = 1 := by
      have := numbersOf_len ws 1 (by rw [he0])
      rw [he0] at this; exact this
    cases again with
    | true =>
      have HS : Hid (onceC setSl 1 true c ws = (12, c)) := by
        show onceC setSl 1 true c ws = _
        unfold onceC; rw [he0]; rfl
      clear hlen he0
      go_enter Tryd.func68, Tryd.ntmps68
      go_wp2_with (go_at_call 49; refine K.out.mono ?_; intro e w1 h1; obtain ⟨u, rfl, hr1, hb1⟩ := KN.out e w1 h1; obtain ⟨A1, c1, rfl, hc1⟩ := hr1.ints.len; clear h1)
      go_ret
      exact ap_of HS.out (HC.out.below hb1 (Nat.le_refl _)) (Kp.of_below hb1 hH (Nat.le_refl _))
    | false =>
      have HS : Hid (onceC setSl 1 false c ws = (0, setSl c xs)) := by
        show onceC setSl 1 false c ws = _
        unfold onceC; rw [he0]; rfl
      have HL := Lib.hid hlen
      clear hlen he0
      go_enter Tryd.func68, Tryd.ntmps68
      go_wp2_with (first
        | (go_at_call 49; refine K.out.mono ?_; intro e w1 h1; obtain ⟨u, rfl, hr1, hb1⟩ := KN.out e w1 h1; have hx1 := Lib.hid ((hb1.cell (p := ⟨bx, 0, none⟩) hbx).trans HX.out); have hx2 := (hb1.cell (p := ⟨p2, 0, none⟩) hbp).trans H2.out; have hbs := hb1.size; have HC1 := Lib.hid (HC.out.below hb1 (Nat.le_refl _)); have HR1 := Lib.hid hr1; obtain ⟨A1, c1, rfl, hc1⟩ := hr1.ints.len; clear h1 hr1)
        | (go_at_call 55; refine (setSl_any _ xs bx bc H c w1 HR1.out.ints HL.out hx1.out HC1.out hlt).mono ?_; rintro e w2 ⟨rfl, hc2, hk2⟩))
      go_ret
      exact ap_of HS.out hc2 (kp_below hb1 hH hk2)
  · have HS : Hid (onceC setSl 1 again c ws = (e0, c)) := by
      show onceC setSl 1 again c ws = _
      unfold onceC; rw [he0]; exact if_neg hz
    have t1 : ((e0 : Int) != 0) = true := by simp; omega
    clear he0 hz
    go_enter Tryd.func68, Tryd.ntmps68
    go_wp2_with (go_at_call 49; refine K.out.mono ?_; intro e w1 h1; obtain ⟨u, rfl, hr1, hb1⟩ := KN.out e w1 h1; obtain ⟨A1, c1, rfl, hc1⟩ := hr1.ints.len; clear h1)
    go_ret
    exact ap_of HS.out (HC.out.below hb1 (Nat.le_refl _)) (Kp.of_below hb1 hH (Nat.le_refl _))

end Go.Proofs.YtlbabhddjdhalaaDoor
