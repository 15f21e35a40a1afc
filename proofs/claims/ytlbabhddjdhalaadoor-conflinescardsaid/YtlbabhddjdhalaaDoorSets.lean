/- What words do to a config: numbers, servers, numbers set. -/
import Derived.Test.YtlbabhddjdhalaaDoorChk2
import Derived.Test.YtlbabhddjdhalaaDoorSplit
import Derived.StillTailTactics
namespace Go.Proofs.YtlbabhddjdhalaaDoor
open Go.RowKit Go.Proofs.Lx

/-- The strings ws can be read at v. -/
def Txts (w : World) (v : Value) (ws : List Bs) : Prop := ∃ A c, v = .slice A ws.length c ∧ ws.length ≤ c ∧ (0 < ws.length → ∃ g o, A = some ⟨g, o, none⟩ ∧ g < w.heap.size ∧ ∀ (j : Nat) (l : Bs), ws[j]? = some l → w.cell? ⟨g, o + j, none⟩ = some (Str l))
theorem Txts.len {w : World} {v : Value} {ws : List Bs} (h : Txts w v ws) : ∃ A c, v = .slice A ws.length c ∧ ws.length ≤ c := by
  obtain ⟨A, c, h1, h2, _⟩ := h; exact ⟨A, c, h1, h2⟩
theorem Txts.below {w w' : World} {B : Nat} {v : Value} {ws : List Bs} (h : Txts w v ws) (hb : Below B w w') (hB : w.heap.size ≤ B) : Txts w' v ws := by
  obtain ⟨A, c, rfl, hc, hr⟩ := h
  refine ⟨A, c, rfl, hc, fun h0 => ?_⟩
  obtain ⟨g, o, rfl, hg, hcell⟩ := hr h0
  exact ⟨g, o, rfl, Nat.lt_of_lt_of_le hg hb.size, fun j x hj => (hb.cell (p := ⟨g, o + j, none⟩) (by simp; omega)).trans (hcell j x hj)⟩
theorem Txts.at_ {w : World} {A : Option Addr} {n c : Nat} {ws : List Bs} (h : Txts w (.slice A n c) ws) (k : Nat) (hk : k < ws.length) : ∃ g o, ∃ p : ByteArray, A = some ⟨g, o, none⟩ ∧ g < w.heap.size ∧ w.cell? ⟨g, o + k, none⟩ = some (.string p) ∧ p.data.toList = ws[k] := by
  obtain ⟨A', c', e, hc, hr⟩ := h
  injection e with e1 e2 e3
  subst e1 e3
  obtain ⟨g, o, rfl, hg, hcell⟩ := hr (by omega)
  exact ⟨g, o, ⟨ws[k].toArray⟩, rfl, hg, hcell k _ (List.getElem?_eq_getElem hk), by simp⟩
theorem Tryd.info3 : (Tryd.prog.info? 3).map (fun i => (i.zero, i.size, i.bytes)) = some (some (.int .i64 0), 1, 8) := by kernel_rfl
theorem one_int (x : Int) : ∀ u ∈ [Value.int .i64 x], u.oneCell' = true := fun u hu => by
  simp at hu; subst hu; rfl
theorem row_snoc {w : World} {base : Nat} {v : Value} {xs : List Int} {x : Int} (h : w.ownsRow base 3 1 v (xs.length + 1) (xs.map (Value.int .i64) ++ [.int .i64 x])) : Row w base v (xs ++ [x]) := by
  unfold Row; simpa using h
theorem numsF_at (acc : List Int) (ws : List Bs) (k : Nat) (h : k < ws.length) : numsF acc (ws.drop k) = if (number ws[k]).2 = 0 then numsF (acc ++ [((number ws[k]).1 : Int)]) (ws.drop (k + 1)) else ([], (number ws[k]).2) := by
  rw [List.drop_eq_getElem_cons h, numsF]

def NumPost (w : World) (ws : List Bs) (k : Nat) (e : Ending) (w' : World) : Prop :=
  ∃ u, e = .returned (.tuple #[u, .int .i64 ((numbersOf ws k).2 : Nat)]) ∧ Row w' w.heap.size u (numbersOf ws k).1 ∧ Below w.heap.size w w'
theorem np_of {w w' : World} {ws : List Bs} {k : Nat} {u : Value} {xs : List Int} {n : Nat} (h : numbersOf ws k = (xs, n)) (hr : Row w' w.heap.size u xs) (hb : Below w.heap.size w w') : NumPost w ws k (.returned (.tuple #[u, .int .i64 (n : Nat)])) w' := by
  exact ⟨u, by rw [h], by rw [h]; exact hr, hb⟩

set_option maxRecDepth 100000 in
set_option maxHeartbeats 4000000 in
theorem numbers_any (v : Value) (ws : List Bs) (k : Nat) (w : World) (h : Txts w v ws) (hl : ws.length ≤ 1000000) :
    Calls Tryd.prog 49 #[v, .int .i64 (k : Nat)] w fun e w' => NumPost w ws k e w' := by
  obtain ⟨i0, hi, hz0, hz1, hz2⟩ := info_parts Tryd.info3
  obtain ⟨A, c, rfl, hc⟩ := h.len
  by_cases hk : ws.length = k
  · have HE : Hid (numbersOf ws k = numsF [] ws) := if_pos hk
    have HI := Lib.hid h
    obtain ⟨N, hN⟩ : ∃ N, N = ws.length := ⟨_, rfl⟩
    have HN := Lib.hid hN
    rw [← hN] at hl hc hk ⊢
    subst hk
    clear hN h
    have t0 : ((N : Int) != (N : Int)) = false := by simp
    go_enter Tryd.func49, Tryd.ntmps49
    go_wp2
    go_loopw [6, 17] (fun u i wr => ∃ (j : Nat) (acc : List Int), j ≤ N ∧ acc.length = j ∧ i = .int .i64 j ∧ Hid (Row wr w.heap.size u acc) ∧ Below w.heap.size w wr ∧ Hid (numsF [] ws = numsF acc (ws.drop j))) (fun _ i _ => N - (intOf i).toNat)
    case atStart => exact ⟨0, [], Nat.zero_le _, rfl, rfl, Row.nil _ _, Below.refl _ _, (by simp : numsF [] ws = numsF [] (ws.drop 0))⟩
    case round =>
      obtain ⟨j, acc, hj, hal, rfl, HR, hbr, HX⟩ := hrel
      by_cases hjN : j < N
      · have hjx : j < ws.length := by have := HN.out; omega
        obtain ⟨g, o, p, rfl, hg, hcell, hp⟩ := (HI.out.below hbr (Nat.le_refl _)).at_ j hjx
        have hst := HX.out
        rw [numsF_at acc ws j hjx, ← hp] at hst
        have K := Lib.hid (number_any p wr)
        obtain ⟨z, e, hze⟩ : ∃ z e, number p.data.toList = (z, e) := ⟨_, _, rfl⟩
        rw [hze] at K hst
        simp only at hst
        have hbs := hbr.size
        clear hp hze hjx HX
        by_cases he : e = 0
        · rw [if_pos he] at hst
          have HS := Lib.hid hst
          subst he
          clear hst
          go_wp2_with (first
            | (go_at_call 67; refine K.out.mono ?_; rintro e w1 ⟨rfl, hb1⟩; have hbs1 := hb1.size; have HO : Hid (w1.ownsRow w.heap.size 3 1 _ acc.length (acc.map (Value.int .i64))) := HR.out.below hb1 (Nat.le_refl _))
            | (at_builtin; refine wpList_append_own _ rfl (.tmp 29) (.tmp 31) 22 rfl w.heap.size 3 i0 (.int .i64 0) 1 8 Tryd.underlying22 hi hz0 hz1 hz2 rfl (by decide) _ _ _ rfl (HO.out.alloc _) ⟨w1.heap.size, 0, none⟩ 1 1 [.int .i64 (z : Int)] rfl rfl (cell_one_new _ _ _) (one_int _) (by unfold maxLen; omega) (by omega) (by simp; omega) ?_; intro v' w2 hown' hgrow _))
          have hb2 : Below w.heap.size w w2 := Below.grown ((hbr.trans (hb1.mono hbs)).alloc (by omega) _) hgrow (by simp; omega) (fun q hq => (HO.out.lt q hq).1)
          go_roundw
          case rel => exact ⟨j + 1, acc ++ [(z : Int)], by omega, by simp [hal], by go_num, row_snoc hown', hb2, HS⟩
          case measure => simp [intOf]; omega
        · rw [if_neg he] at hst
          have HS := Lib.hid (HE.out.trans hst)
          have t1 : ((e : Int) != 0) = true := by simp; omega
          clear hst
          go_wp2_with (go_at_call 67; refine K.out.mono ?_; rintro e w1 ⟨rfl, hb1⟩)
          go_ret2
          exact np_of HS.out (Row.nil _ _) (hbr.trans (hb1.mono hbs))
      · have hst := HX.out
        rw [List.drop_eq_nil_of_le (by have := HN.out; omega), numsF] at hst
        have HS := Lib.hid (HE.out.trans hst)
        clear hst HX
        go_wp2
        go_ret2
        exact np_of HS.out HR.out hbr
  · have HE : Hid (numbersOf ws k = ([], 6)) := if_neg hk
    obtain ⟨N, hN⟩ : ∃ N, N = ws.length := ⟨_, rfl⟩
    rw [← hN] at hl hc hk ⊢
    clear hN h
    have t0 : ((N : Int) != (k : Int)) = true := by simp; omega
    go_enter Tryd.func49, Tryd.ntmps49
    go_wp2
    go_ret2
    exact np_of HE.out (Row.nil _ _) (Below.refl _ _)
end Go.Proofs.YtlbabhddjdhalaaDoor
