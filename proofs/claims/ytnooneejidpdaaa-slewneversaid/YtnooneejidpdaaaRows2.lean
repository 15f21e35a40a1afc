/- A clock and two rows of numbers that a walk makes, each in blocks of its own. -/
import Derived.Test.YtnooneejidpdaaaSt
import Derived.Deep.AppendLies
namespace Go.Proofs.Ytnooneejidpdaaa
open Go.RowKit

def nums (xs : List Int) : List Value := xs.map (Value.int .i64)
structure Rows2 (w : World) (g : Nat) (k : Ck) (n m : Nat) (va vb : Value) (xs ys : List Int) (wi : World) : Prop where
  clk : Clk 64 wi g k
  ra : wi.ownsRow w.heap.size 2 1 va n (nums xs)
  rb : wi.ownsRow w.heap.size 2 1 vb m (nums ys)
  ne : ∀ p, va.ownBlock = some p → vb.ownBlock ≠ some p
  bel : Below w.heap.size w wi
  own : w.heap.size ≤ g

theorem own_below {w w' : World} {B base e size n : Nat} {v : Value} {xs : List Value} (h : w.ownsRow base e size v n xs) (hb : Below B w w') (hB : w.heap.size ≤ B) : w'.ownsRow base e size v n xs := by
  refine ⟨h.1, ?_⟩
  rcases h.2 with h0 | ⟨g, cap, cur, hv, hb', hg, rest⟩
  · exact .inl h0
  · have hlt : g < w.heap.size := (Array.getElem?_eq_some_iff.1 hg).1
    exact .inr ⟨g, cap, cur, hv, hb', (hb.block g (by omega)).trans hg, rest⟩
/-- A row whose block is left as it was. -/
theorem own_kept {w w' : World} {base e size n : Nat} {v : Value} {xs : List Value} (h : w.ownsRow base e size v n xs) (hk : ∀ p, v.ownBlock = some p → p < w.heap.size → w'.heap[p]? = w.heap[p]?) : w'.ownsRow base e size v n xs := by
  refine ⟨h.1, ?_⟩
  rcases h.2 with h0 | ⟨g, cap, cur, rfl, hb', hg, rest⟩
  · exact .inl h0
  · exact .inr ⟨g, cap, cur, rfl, hb', (hk g rfl (heap_lt hg)).trans hg, rest⟩
theorem own_len {w : World} {base e size n : Nat} {v : Value} {xs : List Value} (h : w.ownsRow base e size v n xs) : ∃ A c, v = .slice A n c ∧ n ≤ c := by
  rcases h.2 with ⟨rfl, rfl⟩ | ⟨g, cap, cur, rfl, hb, hg, hn, rest⟩
  · exact ⟨_, _, rfl, Nat.le_refl _⟩
  · exact ⟨_, _, rfl, hn⟩
theorem own_lt {w : World} {base e size n p : Nat} {v : Value} {xs : List Value} (h : w.ownsRow base e size v n xs) (hp : v.ownBlock = some p) : base ≤ p ∧ p < w.heap.size ∧ ∃ cur, w.heap[p]? = some (.cells cur e (0, 0)) := by
  rcases h.2 with ⟨rfl, rfl⟩ | ⟨g, cap, cur, rfl, hb, hg, rest⟩
  · simp [Value.ownBlock] at hp
  · simp only [Value.ownBlock, Option.some.injEq] at hp
    subst hp
    exact ⟨hb, heap_lt hg, cur, hg⟩
/-- A number of a row. -/
theorem own_at {w : World} {base n c j : Nat} {A : Option Addr} {xs : List Int} (h : w.ownsRow base 2 1 (.slice A n c) n (nums xs)) (hj : j < n) : ∃ g x, A = some ⟨g, 0, none⟩ ∧ xs[j]? = some x ∧ w.cell? ⟨g, j, none⟩ = some (.int .i64 x) := by
  have hl : xs.length = n := by have := h.1; simpa [nums] using this
  rcases h.2 with ⟨e, rfl⟩ | ⟨g, cap, cur, e, hb, hg, rest⟩
  · omega
  · injection e with e1 e2 e3
    subst e1 e3
    refine ⟨g, xs[j]'(by omega), rfl, List.getElem?_eq_getElem _, ?_⟩
    rw [h.cellAt j (by omega)]
    simp [nums, show j < xs.length by omega]

section
variable {w wi : World} {g : Nat} {k : Ck} {n m : Nat} {va vb : Value} {xs ys : List Int}
theorem Rows2.below {wj : World} (s : Rows2 w g k n m va vb xs ys wi) (h : Below wi.heap.size wi wj) : Rows2 w g k n m va vb xs ys wj :=
  ⟨s.clk.below h, own_below s.ra h (Nat.le_refl _), own_below s.rb h (Nat.le_refl _), s.ne, bel_trans s.bel h, s.own⟩
theorem Rows2.swap (s : Rows2 w g k n m va vb xs ys wi) : Rows2 w g k m n vb va ys xs wi :=
  ⟨s.clk, s.rb, s.ra, fun p hp hq => s.ne p hq hp, s.bel, s.own⟩
/-- The clock's block is none of a row's. -/
theorem row_ne {v : Value} {zs : List Value} (hc : Clk 64 wi g k) (h : wi.ownsRow w.heap.size 2 1 v n zs) : v.ownBlock ≠ some g := fun e => by
  obtain ⟨_, _, cur, hg⟩ := own_lt h e
  have hc' : wi.heap[g]? = _ := hc
  rw [hc'] at hg
  injection hg with hg
  injection hg with _ ht _
  exact absurd ht (by decide)
/-- Behind an adjustment. -/
theorem Rows2.but {wj : World} {k' : Ck} (s : Rows2 w g k n m va vb xs ys wi) (hc : Clk 64 wj g k') (h : But g wi wj) : Rows2 w g k' n m va vb xs ys wj := by
  refine ⟨hc, own_kept s.ra fun p hp hl => ?_, own_kept s.rb fun p hp hl => ?_, s.ne, bel_but s.bel h s.own, s.own⟩
  · exact h.block p hl (fun e => row_ne s.clk s.ra (by rw [hp, e]))
  · exact h.block p hl (fun e => row_ne s.clk s.rb (by rw [hp, e]))
/-- Behind an append to the first row. -/
theorem Rows2.snoc {wj : World} {x : Int} {p c : Nat} (s : Rows2 w g k n m va vb xs ys wi)
    (ho : wj.ownsRow w.heap.size 2 1 (.slice (some ⟨p, 0, none⟩) (n + 1) c) (n + 1) (nums xs ++ [.int .i64 x])) (hg : wi.grownBy wj va.ownBlock) (hat : va.ownBlock = some p ∨ p = wi.heap.size) :
    Rows2 w g k (n + 1) m (.slice (some ⟨p, 0, none⟩) (n + 1) c) vb (xs ++ [x]) ys wj := by
  refine ⟨(hg.block g s.clk.lt (fun e => row_ne s.clk s.ra e.symm)).trans s.clk, ?_, own_kept s.rb fun q hq hl => hg.block q hl (fun e => s.ne q e.symm hq), ?_, ?_, s.own⟩
  · simpa [nums] using ho
  · intro q hq hv
    simp only [Value.ownBlock, Option.some.injEq] at hq
    subst hq
    rcases hat with h | h
    · exact s.ne p h hv
    · have := (own_lt s.rb hv).2.1
      omega
  · exact Below.grown s.bel hg s.bel.size (fun q hq => (own_lt s.ra hq).1)
theorem Rows2.start (hc : Clk 64 wi g k) (hb : Below w.heap.size w wi) (ho : w.heap.size ≤ g) : Rows2 w g k 0 0 (.slice none 0 0) (.slice none 0 0) [] [] wi :=
  ⟨hc, World.ownsRow_nil _ _ _ _, World.ownsRow_nil _ _ _ _, fun p h => by simp [Value.ownBlock] at h, hb, ho⟩
end
theorem info_parts {P : Program} {t : TypeId} {z : Value} {s b : Nat} (h : (P.info? t).map (fun i => (i.zero, i.size, i.bytes)) = some (some z, s, b)) : ∃ i, P.info? t = some i ∧ i.zero = some z ∧ i.size = s ∧ i.bytes = b := by
  obtain ⟨i, hi, e⟩ := Option.map_eq_some_iff.1 h
  simp only [Prod.mk.injEq] at e
  exact ⟨i, hi, e.1, e.2.1, e.2.2⟩
theorem info2 : (Try.prog.info? 2).map (fun i => (i.zero, i.size, i.bytes)) = some (some (.int .i64 0), 1, 8) := by kernel_rfl
theorem one_int (x : Int) : ∀ u ∈ [Value.int .i64 x], u.oneCell' = true := fun u hu => by
  simp only [List.mem_singleton] at hu; subst hu; rfl
theorem cell_one_new (w : World) (t : TypeId) (v : Value) : ∀ (j : Nat) (u : Value), [v][j]? = some u → (w.alloc (.cells #[v] t)).cell? ((⟨w.heap.size, 0, none⟩ : Addr).add j) = some u := fun j u hu =>
  World.news_of_block (heap_alloc_new w _) j u (by simpa using hu)
end Go.Proofs.Ytnooneejidpdaaa
