/- Numbers appended to a list of the call's own, at uint8. -/
import Derived.Test.YtjjcoblbiagflaaGreatMix
namespace Go.Proofs.YtjjcoblbiagflaaGreat.ku
open Go.RowKit

theorem app_any {w : World} {ops : Array Oper} {rest : List Oper} {o : Oper} {a : Act} {Q : Exit → Act → World → Prop} (hgd : o.guard = none) (s x : Operand)
    (ho : o.op = .call { callee := .builtin .append, args := #[s, x], argTypes := #[26, 26] }) (base : Nat) (v : Value) (n : Nat) (xs : List A) (hs : a.eval s = v) (hown : w.ownsRow base T 1 v n (xs.map enc))
    (Ad : Option Addr) (m c : Nat) (ys : List A) (hx : a.eval x = .slice Ad m c) (hl : ys.length = m) (hA : Ad = none → c = 0) (hn : Lies w Ad (ys.map enc)) (hb : n + m ≤ 1000000) (hbase : base ≤ w.heap.size)
    (h : ∀ v' w', w'.ownsRow base T 1 v' (n + m) ((xs ++ ys).map enc) → w.grownBy w' v.ownBlock → (v'.ownBlock = v.ownBlock ∨ v'.ownBlock = some w.heap.size) → wpList Tryz.prog ops Q rest (a.put o.dst v') w') : wpList Tryz.prog ops Q (o :: rest) a w := by
  cases hi : Tryz.prog.info? 5 with
  | none => have := info_k; rw [hi] at this; simp at this
  | some i0 =>
    have hi1 := info_k
    rw [hi] at hi1
    simp only [Option.map_some, Option.some.injEq, Prod.mk.injEq] at hi1
    refine wpList_append_src hgd s x 26 ho base 5 i0 _ 1 Tryz.underlying26 hi hi1.1 hi1.2.1 hi1.2.2 rfl v n _ hs hown Ad m c _ hx (by simpa using hl) hA hn (fun u hu => by obtain ⟨x, _, rfl⟩ := List.mem_map.1 hu; exact enc_one x) (by unfold maxLen; omega) (by omega) hbase ?_
    intro v' w' k1 k2 k3
    exact h v' w' (by simpa using k1) k2 k3
end Go.Proofs.YtjjcoblbiagflaaGreat.ku
