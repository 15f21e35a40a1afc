/- What the laws' walks share: a config's text or none, configs in boxes. -/
import Derived.Test.YtlbabhddjdhalaaDoorOpen
import Derived.Test.YtlbabhddjdhalaaDoorPrint3
import Derived.Test.YtlbabhddjdhalaaDoorAlive
import Derived.Test.YtlbabhddjdhalaaDoorPure2
namespace Go.Proofs.YtlbabhddjdhalaaDoor
open Go.RowKit Go.Proofs.Lx

structure CfgR (c : Cfg) : Prop where
  S : ∀ x ∈ c.S, i64 x
  q : i64 c.q
  l : i64 c.l
  m : i64 c.m
  d : i64 c.d
  s : i64 c.s
theorem CfgR.of {c : Cfg} (h : checkOf c = 0) : CfgR c := by
  obtain ⟨_, h1, h2, h3, h4, h5, h6⟩ := check_small h
  exact ⟨h1, h2, h3, h4, h5, h6⟩
def textC (c : Cfg) : Bs := if checkOf c = 0 then printOf c else []
def textZ (c : Cfg) : ByteArray := ⟨(textC c).toArray⟩
theorem textZ_list (c : Cfg) : (textZ c).data.toList = textC c := by simp [textZ]
theorem textC_ok {c : Cfg} (h : checkOf c = 0) : textC c = printOf c := if_pos h
theorem textC_len (c : Cfg) : (textC c).length ≤ 2000 := by
  unfold textC
  split
  · rename_i h; exact print_len c (check_small h).1
  · simp
theorem textZ_size (c : Cfg) : (textZ c).size ≤ 2000 := textC_len c

set_option maxRecDepth 100000 in
set_option maxHeartbeats 4000000 in
/-- Of a config with too many servers, however many. -/
theorem check_long (v : Value) (c : Cfg) (w : World) (h : Ints w v c.S) (hl : 16 < c.S.length) :
    Calls Tryd.prog 13 #[cval v c] w fun e w' => e = .returned (.int .i64 (checkOf c : Nat)) ∧ Below w.heap.size w w' := by
  obtain ⟨A, cp, rfl, hc⟩ := h.len
  have h0 : c.S ≠ [] := fun e => by rw [e] at hl; simp at hl
  have HC := Lib.hid (check_full c h0 hl)
  obtain ⟨N, hN⟩ : ∃ N, N = c.S.length := ⟨_, rfl⟩
  rw [← hN] at hl hc ⊢
  clear h h0 hN
  unfold cval
  go_enter Tryd.func13, Tryd.ntmps13
  go_wp2
  go_ret
  exact ⟨by rw [HC.out]; rfl, (Below.refl _ _).alloc (Nat.le_refl _) _⟩
theorem check_all (v : Value) (c : Cfg) (w : World) (h : Ints w v c.S) :
    Calls Tryd.prog 13 #[cval v c] w fun e w' => e = .returned (.int .i64 (checkOf c : Nat)) ∧ Below w.heap.size w w' := by
  by_cases hl : 16 < c.S.length
  · exact check_long v c w h hl
  · exact check_any v c w h (by omega)
set_option maxRecDepth 100000 in
set_option maxHeartbeats 4000000 in
theorem print_none (v : Value) (c : Cfg) (w : World) (h : Ints w v c.S) (hx : checkOf c ≠ 0) :
    Calls Tryd.prog 11 #[cval v c] w fun e w' => e = .returned (.tuple #[.string ⟨#[]⟩, .int .i64 (checkOf c : Nat)]) ∧ Below w.heap.size w w' := by
  obtain ⟨A, cp, rfl, hc⟩ := h.len
  obtain ⟨W, hW⟩ : ∃ W, W = w.alloc (.cells #[.slice A c.S.length cp, .int .i64 c.q, .int .i64 c.l, .int .i64 c.m, .int .i64 c.d, .int .i64 c.s] 24) := ⟨_, rfl⟩
  have hbW : Below w.heap.size w W := by rw [hW]; exact (Below.refl _ _).alloc (Nat.le_refl _) _
  have K := Lib.hid (check_all _ c W (h.below hbW (Nat.le_refl _)))
  unfold cval at K ⊢
  obtain ⟨x, hxx⟩ : ∃ x, x = checkOf c := ⟨_, rfl⟩
  rw [← hxx] at hx K ⊢
  obtain ⟨N, hN⟩ : ∃ N, N = c.S.length := ⟨_, rfl⟩
  rw [← hN] at K hW ⊢
  have t1 : ((x : Int) != 0) = true := by simp; omega
  clear h hc hN hxx
  go_enter Tryd.func11, Tryd.ntmps11
  go_wp2_with (rw [← hW]; go_at_call 13; refine K.out.mono ?_; rintro e w1 ⟨rfl, hb1⟩)
  go_ret2
  exact ⟨rfl, hbW.trans (hb1.mono hbW.size)⟩
theorem print_any (v : Value) (c : Cfg) (w : World) (h : Ints w v c.S) (hr : CfgR c) (hp : Pow w) :
    Calls Tryd.prog 11 #[cval v c] w fun e w' => e = .returned (.tuple #[.string (textZ c), .int .i64 (checkOf c : Nat)]) ∧ Below w.heap.size w w' := by
  by_cases hx : checkOf c = 0
  · have e : textZ c = ⟨(printOf c).toArray⟩ := by unfold textZ; rw [textC_ok hx]
    rw [e, hx]
    exact print_ok v c w h (check_small hx).1 hx hr.S hr.q hr.l hr.m hr.d hr.s hp
  · have e : textZ c = ⟨#[]⟩ := by unfold textZ textC; rw [if_neg hx]
    rw [e]
    exact print_none v c w h hx

/-! ### a config in a box -/
def Box (u : World) (g : Nat) (v : Value) (c : Cfg) : Prop := u.heap[g]? = some (.cells #[v, .int .i64 c.q, .int .i64 c.l, .int .i64 c.m, .int .i64 c.d, .int .i64 c.s] 24 (0, 0))
theorem Box.below {w w' : World} {B g : Nat} {v : Value} {c : Cfg} (h : Box w g v c) (hb : Below B w w') (hg : g < B) : Box w' g v c := (hb.block g hg).trans h
theorem Box.lt {w : World} {g : Nat} {v : Value} {c : Cfg} (h : Box w g v c) : g < w.heap.size := (Array.getElem?_eq_some_iff.1 h).1
theorem Box.cells {w : World} {g : Nat} {v : Value} {c : Cfg} (h : Box w g v c) : w.cell? ⟨g, 0, none⟩ = some v ∧ w.cell? ⟨g, 1, none⟩ = some (.int .i64 c.q) ∧ w.cell? ⟨g, 2, none⟩ = some (.int .i64 c.l) ∧ w.cell? ⟨g, 3, none⟩ = some (.int .i64 c.m) ∧ w.cell? ⟨g, 4, none⟩ = some (.int .i64 c.d) ∧ w.cell? ⟨g, 5, none⟩ = some (.int .i64 c.s) := six_cells h
theorem Box.new (w : World) (v : Value) (c : Cfg) : Box (w.alloc (.cells #[v, .int .i64 c.q, .int .i64 c.l, .int .i64 c.m, .int .i64 c.d, .int .i64 c.s] 24)) w.heap.size v c := heap_alloc_new _ _
theorem below_alloc (w : World) (o : Obj) : Below w.heap.size w (w.alloc o) := (Below.refl _ _).alloc (Nat.le_refl _) _
theorem textZ_eq {a b : Cfg} (ha : checkOf a = 0) (hb : checkOf b = 0) : ((textZ a).toList == (textZ b).toList) = decide (a = b) := by
  rw [ByteArray.toList_eq, ByteArray.toList_eq, textZ_list, textZ_list, textC_ok ha, textC_ok hb, Bool.eq_iff_iff]
  simp only [beq_iff_eq, decide_eq_true_eq]
  exact ⟨print_inj ha hb, fun e => by rw [e]⟩
end Go.Proofs.YtlbabhddjdhalaaDoor
