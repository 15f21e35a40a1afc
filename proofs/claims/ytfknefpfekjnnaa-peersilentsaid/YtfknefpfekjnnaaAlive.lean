/- The document's example. -/
import Derived.Test.YtfknefpfekjnnaaPans
namespace Go.Proofs.Ytfknefpfekjnnaa
open Go.RowKit

/-- A peer of the walk's own, from call to call. -/
structure Sp (w wi : World) (p b : Nat) (k : Pr) : Prop where
  pe : Pe wi p b k
  bel : Below w.heap.size w wi
  op : w.heap.size ≤ p
  ob : w.heap.size ≤ b
theorem Sp.below {w wi wj : World} {p b : Nat} {k : Pr} (s : Sp w wi p b k) (h : Below wi.heap.size wi wj) : Sp w wj p b k := ⟨s.pe.below h, s.bel.trans (h.mono s.bel.size), s.op, s.ob⟩
theorem Sp.two {w wi wj : World} {p b : Nat} {k k' : Pr} (s : Sp w wi p b k) (h : Pe wj p b k') (ht : Two p b wi wj) : Sp w wj p b k' := ⟨h, s.bel.trans (ht.below s.bel.size s.op s.ob), s.op, s.ob⟩
theorem results_cell1 {P : Program} {fn : Func} {p : Tmp} {ty : TypeId} (h : fn.results = #[.cell p ty]) (tmps : Array Value) (w : World) (g : Nat) (t' : TypeId) (cs : Array Value) (fr : Nat × Nat) (d : TypeDesc)
    (hp : tmps.getD p undef = .pointer (some ⟨g, 0, none⟩)) (hg : w.heap[g]? = some (.cells cs t' fr))
    (hu : P.underlying ty = some d) (hd : (match d with | .struct _ | .array _ _ => true | _ => false) = true) (hi : (P.info? ty).map (·.size) = some cs.size) :
    (results fn tmps).run P w = .ok (.agg cs) w := by
  have hp' : tmps[p]?.getD undef = .pointer (some ⟨g, 0, none⟩) := by simpa using hp
  simp [results, h, hp', asAddr, run_loadVar_row w g t' ty cs fr d hg hu hd hi]

def ex : Cfg := ⟨[7], 1, 4, 16, 1000, 500⟩
theorem info24 : (Try.prog.info? 24).map (·.size) = some 6 := by kernel_rfl
set_option maxHeartbeats 1000000 in
theorem example_any (w : World) : Calls Try.prog 28 #[] w fun e w' => ∃ v, e = .returned (cval v ex) ∧ Ints w' v ex.S ∧ Below w.heap.size w w' := by
  go_enter Try.func28, Try.ntmps28
  go_wp2
  refine bodyPost_ret (results_cell1 (g := w.heap.size) (t' := 24) (fr := (0, 0)) (cs := #[.slice (some ⟨w.heap.size + 1, 0, none⟩) 1 1, .int .i64 1, .int .i64 4, .int .i64 16, .int .i64 1000, .int .i64 500]) rfl _ _ _ rfl (by rw [Below.heap_alloc _ _ _ (by simp)]; exact heap_alloc_new w _) Try.underlying24 rfl info24) rfl ⟨_, rfl, ?_, bel_trans (bel_alloc w _) (bel_alloc _ _)⟩
  refine ⟨some ⟨w.heap.size + 1, 0, none⟩, 1, rfl, Nat.le_refl _, fun _ => ⟨w.heap.size + 1, 0, rfl, by simp, fun j x hj => ?_⟩⟩
  have h0 : j = 0 := by
    have := (List.getElem?_eq_some_iff.1 hj).1
    simp [ex] at this; omega
  subst h0
  obtain rfl : 7 = x := by simpa [ex] using hj
  simp
def k0 : Pr := ⟨4, 16, 1000, 4, 0, 1, 0, 0, 5, 9⟩
def k1 : Pr := ⟨4, 16, 1000, 8, 1, 0, 8000000000, 0, 5, 9⟩
theorem k0_ok : k0.Ok := by constructor <;> decide
theorem k1_ok : k1.Ok := by constructor <;> decide
theorem exa_ask : (Pr.new ex 0).ask 0 5 9 = k0 := rfl
theorem exa_fail : k0.fail = k1 := by
  have : nx 4 16 = 8 := by decide
  unfold Pr.fail k0 k1
  simp [this]
set_option maxRecDepth 100000 in
set_option maxHeartbeats 2000000 in
theorem alive_any (w : World) : Calls Try.prog 10 #[] w fun e w' => e = .returned (.bool true) ∧ Below w.heap.size w w' := by
  have KE := Lib.hid (example_any w)
  have KN := Lib.hid (fun v w (h : Ints w v ex.S) => pnew_ok v ex w h 0 (by decide))
  have KA := Lib.hid (fun p b w (h : Pe w p b (Pr.new ex 0)) => ask_ok p b _ w h 0 5 9 (by decide) (by decide) (by decide))
  have KL := Lib.hid (fun p b w (h : Pe w p b k0) => plate_no p b _ w h k0_ok 1000000000 (by decide))
  have KY := Lib.hid (fun p b w (h : Pe w p b k0) => plate_yes p b _ w h k0_ok (by decide) 1000000001 (by decide))
  have KX := Lib.hid (fun p b w (h : Pe w p b k1) => pnext_any p b _ w h k1_ok)
  rw [show k1.next = 8000000000 by decide] at KX
  have KS := Lib.hid (fun p b w (h : Pe w p b k1) => state_any p b _ w h)
  rw [show k1.st = 0 by decide] at KS
  have KW := Lib.hid (fun p b w (h : Pe w p b k1) => wait_any p b _ w h)
  rw [show k1.n = 8 by decide] at KW
  rw [exa_ask] at KA
  rw [exa_fail] at KY
  go_enter Try.func10, Try.ntmps10
  go_wp2_with fail
  refine KE.out.mono ?_
  rintro e w1 ⟨v, rfl, hv, hb1⟩
  have KN1 := Lib.hid (KN.out v w1 hv)
  have H1 := Lib.hid hb1
  clear hv hb1 KE KN
  go_wp2_with fail
  refine KN1.out.mono ?_
  rintro e w2 ⟨p, b, rfl, hp, hb, hpe, hb2⟩
  have S2 := Lib.hid (Sp.mk (w := w) hpe (bel_trans H1.out hb2) (Nat.le_trans H1.out.size hp) (Nat.le_trans H1.out.size hb))
  clear hp hb hpe hb2 KN1 H1
  have KA1 := Lib.hid (KA.out p b w2 S2.out.pe)
  go_wp2_with fail
  refine KA1.out.mono ?_
  rintro e w3 ⟨g, cp, rfl, hg, hz, hpe, hb3⟩
  have S3 := Lib.hid (S2.out.two hpe (Two.of_but' hb3))
  clear hg hz hpe hb3 KA KA1 S2
  have KL1 := Lib.hid (KL.out p b w3 S3.out.pe)
  go_wp2_with fail
  refine KL1.out.mono ?_
  rintro e w4 ⟨rfl, hb4⟩
  have S4 := Lib.hid (S3.out.below hb4)
  clear hb4 KL KL1 S3
  have KY1 := Lib.hid (KY.out p b w4 S4.out.pe)
  go_wp2_with fail
  refine KY1.out.mono ?_
  rintro e w5 ⟨rfl, hpe, hb5⟩
  have S5 := Lib.hid (S4.out.two hpe hb5)
  clear hpe hb5 KY KY1 S4
  have KX1 := Lib.hid (KX.out p b w5 S5.out.pe)
  go_wp2_with fail
  refine KX1.out.mono ?_
  rintro e w6 ⟨rfl, hb6⟩
  have S6 := Lib.hid (S5.out.below hb6)
  clear hb6 KX KX1 S5
  have KS1 := Lib.hid (KS.out p b w6 S6.out.pe)
  go_wp2_with fail
  refine KS1.out.mono ?_
  rintro e w7 ⟨rfl, rfl⟩
  have KW1 := Lib.hid (KW.out p b w6 S6.out.pe)
  go_wp2_with fail
  refine KW1.out.mono ?_
  rintro e w7 ⟨rfl, rfl⟩
  go_wp2
  go_ret
  exact ⟨rfl, S6.out.bel⟩
end Go.Proofs.Ytfknefpfekjnnaa
