/- Three rows of the call's own, one grown: the others stay, and all are apart. Small numbers as they come in. -/
import Derived.Test.YtjjcoblbiagflaaGreatApkU
import Derived.Test.YtjjcoblbiagflaaGreatApkF
import Derived.OpenShut
namespace Go.Proofs.YtjjcoblbiagflaaGreat
open Go.RowKit

def Apart (v v' : Value) : Prop := ∀ b, v.ownBlock = some b → v'.ownBlock = some b → False
theorem Apart.symm {v v' : Value} (h : Apart v v') : Apart v' v := fun b h1 h2 => h b h2 h1
theorem apart_nil (v : Value) : Apart (.slice none 0 0) v := fun _ h => by cases h
theorem three_step {w0 wr w1 : World} {o : Obj} {base e1 e2 e3 n1 n2 n3 : Nat} {v1 v1' v2 v3 : Value} {x1 x2 x3 : List Value} (B : Below w0.heap.size w0 wr) (hb : w0.heap.size ≤ base)
    (h1 : wr.ownsRow base e1 1 v1 n1 x1) (h2 : wr.ownsRow base e2 1 v2 n2 x2) (h3 : wr.ownsRow base e3 1 v3 n3 x3) (a2 : Apart v1 v2) (a3 : Apart v1 v3)
    (g : (wr.alloc o).grownBy w1 v1.ownBlock) (k : v1'.ownBlock = v1.ownBlock ∨ v1'.ownBlock = some (wr.alloc o).heap.size) :
    Below w0.heap.size w0 w1 ∧ w1.ownsRow base e2 1 v2 n2 x2 ∧ w1.ownsRow base e3 1 v3 n3 x3 ∧ Apart v1' v2 ∧ Apart v1' v3 := by
  have H1 := own_below h1 (bel_alloc wr o) (Nat.le_refl _)
  have H2 := own_below h2 (bel_alloc wr o) (Nat.le_refl _)
  have H3 := own_below h3 (bel_alloc wr o) (Nat.le_refl _)
  refine ⟨bel_grown (bel_trans B (bel_alloc wr o)) H1 hb g, own_keep H2 g fun b e e' => a2 b e' e, own_keep H3 g fun b e e' => a3 b e' e, fun b e e' => ?_, fun b e e' => ?_⟩
  · rcases k with k | k
    · exact a2 b (k ▸ e) e'
    · have := own_block_lt H2 e'
      rw [k] at e
      cases e
      exact Nat.lt_irrefl _ this
  · rcases k with k | k
    · exact a3 b (k ▸ e) e'
    · have := own_block_lt H3 e'
      rw [k] at e
      cases e
      exact Nat.lt_irrefl _ this
theorem u8_enc (y : Int) : ∃ u : UInt8, ku.enc u = .int .u8 (IntKind.u8.wrap y) := by
  refine ⟨UInt8.ofNat (IntKind.u8.wrap y).toNat, ?_⟩
  unfold ku.enc
  rw [IntKind.wrap_u8]
  have h : ((y % 256).toNat) < 256 := by omega
  rw [UInt8.toNat_ofNat_of_lt' (by simpa using h)]
  congr 1
  omega
theorem i16s (xs : List Int) (h : ∀ x ∈ xs, (Lit.int .i16 x).wf = true) : ∃ ls : List Int16, ls.map Int16.toInt = xs := by
  induction xs with
  | nil => exact ⟨[], rfl⟩
  | cons x xs ih =>
    obtain ⟨ls, hl⟩ := ih fun y hy => h y (List.mem_cons_of_mem _ hy)
    have hx := h x (List.mem_cons_self ..)
    refine ⟨Int16.ofInt x :: ls, ?_⟩
    rw [List.map_cons, hl]
    congr 1
    have hb := bounds_i16 hx
    exact Int16.toInt_ofInt_of_le (by show -2 ^ 15 ≤ x; omega) (by show x < 2 ^ 15; omega)
end Go.Proofs.YtjjcoblbiagflaaGreat
