/- The first of two numbers that is not 0; two turns compared. -/
import Derived.Test.YtebdhleggbccdaaShelf
import Derived.Test.YtebdhleggbccdaaLz
import Derived.Test.YtebdhleggbccdaaWq
import Derived.Deep.RegionHeld3
import Derived.StillTailTactics
import Derived.Deep.RegionWith
import Derived.BigQuiet
namespace Go.Proofs.Ytebdhleggbccdaa
open Go.RowKit Go.Lib Go.Sort

set_option maxRecDepth 100000 in
theorem or_two (x y : Int) (g c : Nat) (W : World) (h0 : W.cell? ⟨g, 0, none⟩ = some (.int .i64 x)) (h1 : W.cell? ⟨g, 1, none⟩ = some (.int .i64 y)) :
    Calls Try.prog 40 #[.slice (some ⟨g, 0, none⟩) 2 c] W fun e w' => e = .returned (.int .i64 (if x = 0 then y else x)) ∧ w' = W := by
  by_cases hx : x = 0
  · subst hx
    rw [if_pos rfl]
    by_cases hy : y = 0
    · subst hy
      go_enter Try.func40, Try.ntmps40
      go_wp2
      refine wp_loop_rounds 3 ?_
      rw [rounds_succ]
      go_wp2
      rw [rounds_succ]
      go_wp2
      rw [rounds_succ]
      go_wp2
      go_ret
      exact ⟨rfl, rfl⟩
    · have hd : (y == 0) = false := by simpa using hy
      go_enter Try.func40, Try.ntmps40
      go_wp2
      refine wp_loop_rounds 2 ?_
      rw [rounds_succ]
      go_wp2
      rw [rounds_succ]
      go_wp2
      go_ret
      exact ⟨rfl, rfl⟩
  · rw [if_neg hx]
    have hd : (x == 0) = false := by simpa using hx
    go_enter Try.func40, Try.ntmps40
    go_wp2
    refine wp_loop_rounds 1 ?_
    rw [rounds_succ]
    go_wp2
    go_ret
    exact ⟨rfl, rfl⟩
theorem grow3 (w : World) (A B C : Obj) : ((w.alloc A).alloc B).drew.alloc C = grow (w.drewN 1) #[A, B, C] := by
  show ((w.drew.alloc A).alloc B).alloc C = _
  rw [alloc_eq_grow, alloc_eq_grow, alloc_eq_grow, grow_grow, grow_grow]
  rfl
/-- A region's reads and quiet calls ahead of its end, the world behind the draw a letter. -/
theorem still_tail_any {P : Program} {id : Nat} {Q : Exit → Act → World → Prop} {a : Act} {w : World} {l : List Oper} (n : Nat) (hm : P.follows .mixedOrders = true) (hB : Region.lexTailB .any l.toArray n = true)
    (h : ∀ W : World, W = w.drew → wpStill P l.toArray W (fun a' => wpList P l.toArray Q (l.drop n) a' W) (l.take n) a) : (Code.region id l.toArray true).wp P Q a w :=
  wp_region_still_tail n hm hB (h _ rfl)
set_option maxRecDepth 100000 in
set_option maxHeartbeats 2000000 in
theorem compare_any (a s b t : Int) (w : World) : Calls Try.prog 32 #[.agg #[.int .i64 a, .int .i64 s], .agg #[.int .i64 b, .int .i64 t]] w fun e w' => e = .returned (.int .i64 (if Lib.compareInt a b = 0 then Lib.compareInt s t else Lib.compareInt a b)) ∧ ∃ q os', w' = grow (w.drewN q) os' := by
  have C1 := fun W => Try.cmp_Compare_int_f41 a b W
  have C2 := fun W => Try.cmp_Compare_int_f42 s t W
  generalize Lib.compareInt a b = x at *
  generalize Lib.compareInt s t = y at *
  have CO := fun g c W h0 h1 => or_two x y g c W h0 h1
  generalize (if x = 0 then y else x) = r at *
  have K1 := Lib.hid C1
  have K2 := Lib.hid C2
  have KO := Lib.hid CO
  clear C1 C2 CO
  go_enter Try.func32, Try.ntmps32
  go_wp2_with fail
  obtain ⟨p, hp⟩ : ∃ p, p = w.heap.size := ⟨_, rfl⟩
  have f0 : ∀ k, ((w.alloc (.cells #[.int .i64 a, .int .i64 s] 61)).alloc (.cells #[.int .i64 b, .int .i64 t] 61)).cell? ⟨p, k, none⟩ = #[Value.int .i64 a, .int .i64 s][k]? := fun k => by
    rw [hp, World.cell?_alloc_lt _ _ _ (by simp), cell_of_row _ _ _ _ _ _ (heap_alloc_new w _)]
  have f1 : ∀ k, ((w.alloc (.cells #[.int .i64 a, .int .i64 s] 61)).alloc (.cells #[.int .i64 b, .int .i64 t] 61)).cell? ⟨p + 1, k, none⟩ = #[Value.int .i64 b, .int .i64 t][k]? := fun k => by
    have := heap_alloc_new (w.alloc (.cells #[.int .i64 a, .int .i64 s] 61)) (.cells #[.int .i64 b, .int .i64 t] 61)
    have e : (w.alloc (.cells #[.int .i64 a, .int .i64 s] 61)).heap.size = p + 1 := by simp [hp]
    rw [e] at this
    rw [cell_of_row _ _ _ _ _ _ this]
  rw [← hp]
  generalize hV : (w.alloc (.cells #[.int .i64 a, .int .i64 s] 61)).alloc (.cells #[.int .i64 b, .int .i64 t] 61) = V at *
  have HV := Lib.hid hV
  clear hV hp
  refine still_tail_any 10 (by kernel_rfl) (by kernel_rfl) ?_
  intro W eW
  simp only [List.take_succ_cons, List.take_zero, List.drop_succ_cons, List.drop_zero]
  have g0 : W.cell? ⟨p, 0, none⟩ = some (.int .i64 a) := by rw [eW]; exact f0 0
  have g1 : W.cell? ⟨p, 1, none⟩ = some (.int .i64 s) := by rw [eW]; exact f0 1
  have g2 : W.cell? ⟨p + 1, 0, none⟩ = some (.int .i64 b) := by rw [eW]; exact f1 0
  have g3 : W.cell? ⟨p + 1, 1, none⟩ = some (.int .i64 t) := by rw [eW]; exact f1 1
  have EW := Lib.hid eW
  clear eW f0 f1
  repeat still_step
  still_call (K1.out _)
  repeat still_step
  still_call (K2.out _)
  repeat still_step
  refine wpStill_nil ?_
  clear g0 g1 g2 g3
  go_wp2_with fail
  refine (KO.out _ _ _ ?_ ?_).mono ?_
  · rw [cell_of_row _ _ _ _ _ _ (heap_alloc_new W _)]; rfl
  · rw [cell_of_row _ _ _ _ _ _ (heap_alloc_new W _)]; rfl
  rintro e w' ⟨rfl, rfl⟩
  go_wp2
  go_ret
  exact ⟨rfl, 1, _, by rw [EW.out, ← HV.out]; exact grow3 _ _ _ _⟩
theorem grow2 (w : World) (A B : Obj) (q : Nat) (os : Array Obj) : grow (((w.alloc A).alloc B).drewN q) os = grow (w.drewN q) (#[A, B] ++ os) := by
  rw [show ((w.alloc A).alloc B).drewN q = ((w.drewN q).alloc A).alloc B from rfl, alloc_eq_grow, alloc_eq_grow, grow_grow, grow_grow, ← Array.append_assoc]
  rfl
section
variable {κ : Type} [Inhabited κ]
theorem perm_of {es : List (En κ)} {d' : Array (En κ)} (h : PermIn 0 es.length es.toArray d') : d'.toList.Perm es := by
  have h1 := h.2.2
  have h2 : d'.size = es.length := by have := h.1; simpa using this
  rw [show d'.extract 0 es.length = d' by rw [← h2]; simp, show es.toArray.extract 0 es.length = es.toArray by simp] at h1
  exact h1
theorem sorted_of {es : List (En κ)} {d' : Array (En κ)} (h : PermIn 0 es.length es.toArray d') (hs : SortedIn (ltOf cmpE) 0 es.length d') : d'.toList.Pairwise fun x y => leE x y = true := by
  have h2 : d'.size = es.length := by have := h.1; simpa using this
  rw [List.pairwise_iff_getElem]
  intro i j hi hj hij
  have h3 := hs i j (Nat.zero_le _) hij (by simpa [h2] using hj)
  rw [cmpE_lt] at h3
  simp at hi hj
  rw [getElem!_pos d' i hi, getElem!_pos d' j hj] at h3
  simpa using h3
end
end Go.Proofs.Ytebdhleggbccdaa
