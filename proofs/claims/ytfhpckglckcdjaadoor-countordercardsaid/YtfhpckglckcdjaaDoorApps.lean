/- Strings appended to a row of strings, as a step of a region that draws. -/
import Derived.Test.YtfhpckglckcdjaaDoorRef
import Derived.Test.YtfhpckglckcdjaaDoorNm
import Derived.Test.YtfhpckglckcdjaaDoorLaid
import Derived.OwnWalk
import Derived.Deep.AppendLies
import Derived.Deep.RegionHeld
namespace Go.Proofs.YtfhpckglckcdjaaDoor
open Go.RowKit Go.Proofs.Lx

theorem info9 : (Tryd.prog.info? 9).map (fun i => (i.zero, i.size, i.bytes)) = some (some (.string ByteArray.empty), 1, 16) := by kernel_rfl
theorem strs_one (ws : List Bs) : ∀ u ∈ ws.map Str, u.oneCell' = true := fun u hu => by
  obtain ⟨l, _, rfl⟩ := List.mem_map.1 hu
  rfl
/-- The strings ws lie in block g, from o on. -/
def SAt (w : World) (g o : Nat) (ws : List Bs) : Prop := g < w.heap.size ∧ ∀ (j : Nat) (l : Bs), ws[j]? = some l → w.cell? ⟨g, o + j, none⟩ = some (Str l)
theorem SAt.below {w w' : World} {B g o : Nat} {ws : List Bs} (h : SAt w g o ws) (hb : Below B w w') (hg : g < B) : SAt w' g o ws :=
  ⟨Nat.lt_of_lt_of_le h.1 hb.size, fun j l hj => (hb.cell (p := ⟨g, o + j, none⟩) hg).trans (h.2 j l hj)⟩
theorem SAt.one (w : World) (l : Bs) : SAt (w.alloc (.cells #[Str l] 9)) w.heap.size 0 [l] := ⟨by simp, fun j x hj => by
  match j, hj with
  | 0, hj => simp at hj; subst hj; simp⟩
theorem add_off (g o j : Nat) : (⟨g, o, none⟩ : Addr).add j = ⟨g, o + j, none⟩ := by unfold Addr.add; split <;> simp_all
/-- An append of strings, as a step of a region that draws. -/
theorem step_append_strs {ops : Array Oper} {o : Oper} {a : Act} {w : World} {K : Act → World → Prop} {Q : Exit → Act → World → Prop} {E : Prop} (hgd : o.guard = none) (s x : Operand)
    (ho : o.op = .call { callee := .builtin .append, args := #[s, x], argTypes := #[41, 41] })
    (base : Nat) (v : Value) (n m : Nat) (xs ys : List Bs) (hs : a.eval s = v) (hn : n = xs.length) (hown : Strs w base v xs) (g og c : Nat) (hx : a.eval x = .slice (some ⟨g, og, none⟩) m c) (hm : m = ys.length) (hnews : SAt w g og ys) (hlen : n + m ≤ 1000) (hbase : base ≤ w.heap.size)
    (h : ∀ A cap w', Strs w' base (.slice A (n + m) cap) (xs ++ ys) → Below base w w' → (∀ g' og' zs, some g' ≠ v.ownBlock → SAt w g' og' zs → SAt w' g' og' zs) → K (a.put o.dst (.slice A (n + m) cap)) w') :
    if Region.wanted o (yielded ops a.tmps) = true then Oper.wp Tryd.prog o a w K Q else E := by
  have hw : Region.wanted o (yielded ops a.tmps) = true := by simp [Region.wanted, hgd]
  rw [if_pos hw]
  subst hn hm
  obtain ⟨i0, hi, hz0, hz1, hz2⟩ := info_parts info9
  obtain ⟨v', w', hr, h2, h3, _, _⟩ := run_append_own_at (P := Tryd.prog) w base 41 o.type 9 i0 (.string ByteArray.empty) 1 16 Tryd.underlying41 hi hz0 hz1 hz2 rfl (by decide) v xs.length (xs.map Str) hown ⟨g, og, none⟩ ys.length c (ys.map Str) (by simp) (fun j u hj => by
    rw [List.getElem?_map] at hj
    obtain ⟨l, hl, rfl⟩ := Option.map_eq_some_iff.1 hj
    rw [add_off]; exact hnews.2 j l hl) (strs_one ys) (by unfold maxLen; omega) (by omega) hbase
  have hst : Strs w' base v' (xs ++ ys) := by unfold Strs; rw [List.length_append, List.map_append]; exact h2
  obtain ⟨A, cap, rfl, _⟩ := hst.len
  rw [List.length_append] at hr hst
  unfold Oper.wp execOp
  simp only [ho, resolve, invoke, builtin, Sem.run_bind, Sem.run_pure, Result.andThen_ok, List.map_toArray, List.map_cons, List.map_nil, hs, hx, hr]
  exact h A cap w' hst ⟨h3.os, h3.tape, h3.output, h3.size, fun k hk => h3.block k (by omega) (fun e => by have := (World.ownsRow.lt hown k e.symm).1; omega)⟩ (fun g' og' zs hne hz => ⟨Nat.lt_of_lt_of_le hz.1 h3.size, fun j l hj => (h3.cell_far _ hz.1 hne).trans (hz.2 j l hj)⟩)
end Go.Proofs.YtfhpckglckcdjaaDoor
