/- A clock of the walk's own, from call to call. -/
import Derived.Test.YtnooneejidpdaaaAlive
namespace Go.Proofs.Ytnooneejidpdaaa
open Go.RowKit

/-- The clock k lies in block b, behind what was there in w. -/
structure St (w wi : World) (b : Nat) (k : Ck) : Prop where
  clk : Clk 64 wi b k
  bel : Below w.heap.size w wi
  own : w.heap.size ≤ b
theorem St.below {w wi wj : World} {b : Nat} {k : Ck} (s : St w wi b k) (h : Below wi.heap.size wi wj) : St w wj b k := ⟨s.clk.below h, s.bel.trans (h.mono s.bel.size), s.own⟩
theorem St.but {w wi wj : World} {b : Nat} {k k' : Ck} (s : St w wi b k) (h : Clk 64 wj b k') (hb : But b wi wj) : St w wj b k' := ⟨h, s.bel.trans (hb.below s.bel.size s.own), s.own⟩
theorem kept_in {y lo hi : Int} (h1 : lo ≤ y) (h2 : y ≤ hi) : kept y lo hi = y := by unfold kept; rw [if_neg (by omega), if_neg (by omega)]
/-- A clock that was adjusted at its base. -/
theorem put_base {k : Ck} (o : k.Ok) (y : Int) : k.put k.h y = { k with l := kept y (-2305843009213693952) 2305843009213693952 } := by
  have e : k.err k.h = 0 := Ck.err_of (Int.le_refl _) o.h2
  have f : fl (k.h - k.h) k.r = 0 := by rw [Int.sub_self]; exact fl_zero _
  have g : cor k.l (k.h - k.h) k.r = 0 := by
    unfold cor
    rw [f]
    unfold kept
    split <;> (try split) <;> omega
  unfold Ck.put
  rw [if_pos e]
  unfold Ck.adj Ck.now
  simp only [g]
  rw [show k.c + (k.h - k.h) + 0 = k.c by omega, show k.a + 0 = k.a by omega]
theorem rd_ok {k : Ck} {x : Int} (h1 : k.h ≤ x) (h2 : x ≤ 4611686018427387903) : rd k x = k.c + (x - k.h) + cor k.l (x - k.h) k.r := by unfold rd; rw [if_pos (Ck.err_of h1 h2)]; rfl
theorem lf_ok {k : Ck} {x : Int} (h1 : k.h ≤ x) (h2 : x ≤ 4611686018427387903) : lf k x = k.l - cor k.l (x - k.h) k.r := by unfold lf; rw [if_pos (Ck.err_of h1 h2)]; rfl
theorem sl_ok {k : Ck} {x : Int} (h1 : k.h ≤ x) (h2 : x ≤ 4611686018427387903) : sl k x = k.a + cor k.l (x - k.h) k.r := by unfold sl; rw [if_pos (Ck.err_of h1 h2)]; rfl
/-- There was time enough. -/
theorem cor_all {l d r : Int} (h1 : l ≤ fl d r) (h2 : -l ≤ fl d r) : cor l d r = l := kept_in (by omega) h1
theorem cor_not {l d r : Int} (h : (if l < 0 then -l else l) > fl d r) : cor l d r ≠ l := by
  unfold cor kept
  split at h <;> split <;> (try split) <;> omega

theorem new_st {h c p : Int} {w : World} (f : Fit h c p) :
    Calls Try.prog 10 #[.int .i64 h, .int .i64 c, .int .i64 p] w fun e w' => e = .returned (.tuple #[.pointer (some ⟨w.heap.size, 0, none⟩), .int .i64 0]) ∧ St w w' w.heap.size ⟨p, h, c, 0, 0⟩ :=
  (new_ok h c p w f).mono fun _ _ ⟨e, hc, hb⟩ => ⟨e, hc, hb, Nat.le_refl _⟩
/-- The same, its block under a name. -/
theorem new_ex {h c p : Int} {w : World} (f : Fit h c p) :
    Calls Try.prog 10 #[.int .i64 h, .int .i64 c, .int .i64 p] w fun e w' => ∃ b, e = .returned (.tuple #[.pointer (some ⟨b, 0, none⟩), .int .i64 0]) ∧ w.heap.size ≤ b ∧ Clk 64 w' b ⟨p, h, c, 0, 0⟩ ∧ Below w.heap.size w w' :=
  (new_ok h c p w f).mono fun _ _ ⟨e, hc, hb⟩ => ⟨_, e, Nat.le_refl _, hc, hb⟩
/-- A block that is no clock of ours stays. -/
theorem But.keeps {b g : Nat} {w w' : World} {o : Obj} (h : But b w w') (hg : w.heap[g]? = some o) (hn : g ≠ b) : w'.heap[g]? = some o := (h.block g (Array.getElem?_eq_some_iff.1 hg).1 hn).trans hg
theorem Below.keeps {g : Nat} {w w' : World} {o : Obj} (h : Below w.heap.size w w') (hg : w.heap[g]? = some o) : w'.heap[g]? = some o := (h.block g (Array.getElem?_eq_some_iff.1 hg).1).trans hg
theorem heap_lt {g : Nat} {w : World} {o : Obj} (hg : w.heap[g]? = some o) : g < w.heap.size := (Array.getElem?_eq_some_iff.1 hg).1
theorem bel_trans {w wi wj : World} (h : Below w.heap.size w wi) (g : Below wi.heap.size wi wj) : Below w.heap.size w wj := h.trans (g.mono h.size)
theorem bel_but {b : Nat} {w wi wj : World} (h : Below w.heap.size w wi) (g : But b wi wj) (hb : w.heap.size ≤ b) : Below w.heap.size w wj := h.trans (g.below h.size hb)
end Go.Proofs.Ytnooneejidpdaaa
