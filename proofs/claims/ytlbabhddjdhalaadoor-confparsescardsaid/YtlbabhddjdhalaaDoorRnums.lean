/- The document's own numbers of words. -/
import Derived.Test.YtlbabhddjdhalaaDoorLaws0
import Derived.Test.YtlbabhddjdhalaaDoorSets
namespace Go.Proofs.YtlbabhddjdhalaaDoor
open Go.RowKit Go.Proofs.Lx

def NumsPost (w : World) (ws : List Bs) (e : Ending) (w' : World) : Prop :=
  ∃ x y : Int, e = .returned (.tuple #[.agg #[.int .i64 x, .int .i64 y], .int .i64 ((numsF [] ws).2 : Nat)]) ∧ ((numsF [] ws).2 = 0 → (numsF [] ws).1 = [x, y].take ws.length) ∧ Below w.heap.size w w'
theorem nu_of {w w' : World} {ws : List Bs} {x y : Int} {n : Nat} (h : (numsF [] ws).2 = n) (h2 : n = 0 → (numsF [] ws).1 = [x, y].take ws.length) (hb : Below w.heap.size w w') : NumsPost w ws (.returned (.tuple #[.agg #[.int .i64 x, .int .i64 y], .int .i64 (n : Nat)])) w' := by
  subst h; exact ⟨x, y, rfl, h2, hb⟩
theorem below_two (w : World) (a b : Obj) : Below w.heap.size w ((w.alloc a).alloc b) := (below_alloc w a).alloc (by simp) b

theorem results_cell2 {P : Program} {fn : Func} {p t : Tmp} {ty : TypeId} (h : fn.results = #[.cell p ty, .tmp t]) (tmps : Array Value) (w : World) (g : Nat) (t' : TypeId) (cs : Array Value) (fr : Nat × Nat) (d : TypeDesc)
    (hp : tmps.getD p undef = .pointer (some ⟨g, 0, none⟩)) (hg : w.heap[g]? = some (.cells cs t' fr))
    (hu : P.underlying ty = some d) (hd : (match d with | .struct _ | .array _ _ => true | _ => false) = true) (hi : (P.info? ty).map (·.size) = some cs.size) :
    (results fn tmps).run P w = .ok (.tuple #[.agg cs, tmps.getD t undef]) w := by
  have hp' : tmps[p]?.getD undef = .pointer (some ⟨g, 0, none⟩) := by simpa using hp
  simp [results, h, hp', asAddr, run_loadVar_row w g t' ty cs fr d hg hu hd hi]
theorem info97 : (Tryd.prog.info? 97).map (·.size) = some 2 := by kernel_rfl
set_option maxRecDepth 100000 in
set_option maxHeartbeats 4000000 in
theorem rnums_any (v : Value) (ws : List Bs) (w : World) (h : Txts w v ws) (hl : ws.length ≤ 2) (hsz : ∀ l ∈ ws, l.length ≤ 1000000) :
    Calls Tryd.prog 58 #[v] w fun e w' => NumsPost w ws e w' := by
  obtain ⟨A, c, rfl, hc⟩ := h.len
  have HI := Lib.hid h
  have HZ := Lib.hid hsz
  obtain ⟨N, hN⟩ : ∃ N, N = ws.length := ⟨_, rfl⟩
  have HN := Lib.hid hN
  rw [← hN] at hl hc ⊢
  clear h hN hsz
  go_enter Tryd.func58, Tryd.ntmps58
  go_wp2
  go_loopw [5] (fun i wr => ∃ (k : Nat) (x y : Int), k ≤ N ∧ i = .int .i64 k ∧ wr = (w.alloc (.cells #[.int .i64 0, .int .i64 0] 97)).alloc (.cells #[.int .i64 x, .int .i64 y] 97) ∧ Hid (numsF [] ws = numsF ([x, y].take k) (ws.drop k))) (fun i _ => N - (intOf i).toNat)
  case atStart => exact ⟨0, 0, 0, Nat.zero_le _, rfl, rfl, (by simp : numsF [] ws = numsF ([0, 0].take 0) (ws.drop 0))⟩
  case round =>
    obtain ⟨k, x, y, hk, rfl, rfl, HX⟩ := hrel
    by_cases hkN : k < N
    · have hkx : k < ws.length := by have := HN.out; omega
      obtain ⟨g, o, p, rfl, hg, hcell, hp⟩ := HI.out.at_ k hkx
      have hst := HX.out
      rw [numsF_at _ ws k hkx, ← hp] at hst
      have hps : p.size ≤ 1000000 := by rw [← len_eq, hp]; exact HZ.out _ (List.getElem_mem hkx)
      have K := Lib.hid (fun u => rnumber_any p u hps)
      obtain ⟨z, e, hze⟩ : ∃ z e, number p.data.toList = (z, e) := ⟨_, _, rfl⟩
      rw [hze] at K hst
      simp only at hst
      clear hp hze hkx HX
      by_cases he : e = 0
      · rw [if_pos he] at hst
        subst he
        obtain rfl | rfl : k = 0 ∨ k = 1 := by omega
        · have HS := Lib.hid hst
          simp only [Nat.add_zero] at hcell
          clear hst
          go_wp2_with fail
          refine (K.out _).mono ?_
          rintro e w1 ⟨rfl, hw1⟩
          subst hw1
          go_wp2
          go_roundw
          case rel => exact ⟨1, (z : Int), y, by omega, by go_num, by rfl, HS.out⟩
          case measure => simp [intOf]; omega
        · have HS := Lib.hid hst
          clear hst
          go_wp2_with fail
          refine (K.out _).mono ?_
          rintro e w1 ⟨rfl, hw1⟩
          subst hw1
          go_wp2
          go_roundw
          case rel => exact ⟨2, x, (z : Int), by omega, by go_num, by rfl, HS.out⟩
          case measure => simp [intOf]; omega
      · rw [if_neg he] at hst
        have HS := Lib.hid hst
        have t1 : ((e : Int) != 0) = true := by simp; omega
        clear hst
        go_wp2_with fail
        refine (K.out _).mono ?_
        rintro e w1 ⟨rfl, hw1⟩
        subst hw1
        go_wp2
        try simp only [Exit.inBlock, Exit.then]
        refine bodyPost_ret (results_cell2 rfl _ _ w.heap.size 97 _ (0, 0) _ rfl (heap_alloc2_old _ _ _) Tryd.underlying97 rfl info97) rfl ?_
        exact nu_of (by rw [HS.out]) (fun h => absurd h he) (below_two _ _ _)
    · have hst := HX.out
      rw [List.drop_eq_nil_of_le (by have := HN.out; omega), numsF] at hst
      have HS := Lib.hid hst
      clear hst HX
      obtain rfl : k = N := by omega
      go_wp2
      try simp only [Exit.inBlock, Exit.then]
      refine bodyPost_ret (results_cell2 rfl _ _ w.heap.size 97 _ (0, 0) _ rfl (heap_alloc2_old _ _ _) Tryd.underlying97 rfl info97) rfl ?_
      exact nu_of (n := 0) (by rw [HS.out]) (fun _ => by rw [HS.out, HN.out]) (below_two _ _ _)
end Go.Proofs.YtlbabhddjdhalaaDoor
