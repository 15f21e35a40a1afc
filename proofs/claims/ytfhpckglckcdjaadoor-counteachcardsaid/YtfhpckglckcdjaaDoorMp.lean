/- A map of two numbers, one of true, one of false, made and asked. -/
import Derived.Test.YtfhpckglckcdjaaDoorAlive
import Derived.Maps.OwnSet
namespace Go.Proofs.YtfhpckglckcdjaaDoor
open Go.RowKit Go.Proofs.Lx Go.Maps Go.WideMaps

theorem wpList_insert_own_g {H : Type} {P : Program} (w : World) {ops : Array Oper} {rest : List Oper} {o : Oper} {a : Act} {Q : Exit → Act → World → Prop}
    (hw : Region.wanted o (yielded ops a.tmps) = true) (m x v : Operand) (t : TypeId) (hop : o.op = Op.insert t m x v)
    (k e : TypeId) (K : Keyed P k) (ht : P.underlying t = some (.map k e)) (R : Value → Option (DataW H × List MemPlace)) (b n : Nat) (D : DataW H)
    (hm : a.eval m = .map (some b)) (hown : w.ownsMap P k R b n D) (hn : n < maxLen) (key val : Value) (kl : Lit) (hx : a.eval x = key) (hv : a.eval v = val) (hkey : keyOf P k key = some kl)
    (d : DataW H) (ps : List MemPlace) (hval : R val = some (d, ps))
    (hK : ∀ w', w'.ownsMap P k R b (n + 1) (D.put kl d) → w.grownBy w' (some b) → wpList P ops Q rest (a.put o.dst undef) w') :
    wpList P ops Q (o :: rest) a w := by
  refine wpList_step fun K' hK' => ?_
  rw [if_pos hw]
  obtain ⟨w', hrun, r1, r2⟩ := hown.update K ht hn hkey hval
  unfold Oper.wp
  simp [execOp, hop, hm, hx, hv, hrun, Result.andThen]
  exact hK' _ _ (hK w' r1 r2)
/-- The same as a step of a region that draws. -/
theorem step_insert_own {H : Type} {P : Program} {w : World} {ops : Array Oper} {o : Oper} {a : Act} {K : Act → World → Prop} {Q : Exit → Act → World → Prop} {E : Prop}
    (hw : Region.wanted o (yielded ops a.tmps) = true) (m x v : Operand) (t : TypeId) (hop : o.op = Op.insert t m x v)
    (k e : TypeId) (KK : Keyed P k) (ht : P.underlying t = some (.map k e)) (R : Value → Option (DataW H × List MemPlace)) (b n : Nat) (D : DataW H)
    (hm : a.eval m = .map (some b)) (hown : w.ownsMap P k R b n D) (hn : n < maxLen) (key val : Value) (kl : Lit) (hx : a.eval x = key) (hv : a.eval v = val) (hkey : keyOf P k key = some kl)
    (d : DataW H) (ps : List MemPlace) (hval : R val = some (d, ps))
    (hK : ∀ w', w'.ownsMap P k R b (n + 1) (D.put kl d) → w.grownBy w' (some b) → K (a.put o.dst undef) w') :
    if Region.wanted o (yielded ops a.tmps) = true then Oper.wp P o a w K Q else E := by
  rw [if_pos hw]
  obtain ⟨w', hrun, r1, r2⟩ := hown.update KK ht hn hkey hval
  unfold Oper.wp
  simp [execOp, hop, hm, hx, hv, hrun, Result.andThen]
  exact hK w' r1 r2
theorem zero3 (w : World) : (zeroValue 3).run Tryd.prog w = .ok (.int .i64 0) w := by kernel_rfl
theorem key_bool (x : Bool) : keyOf Tryd.prog 4 (.bool x) = some (.bool x) := by
  cases x <;> kernel_rfl
/-- What such a map reads as: of true c, of false d. -/
def twoD (c d : Int) : DataW Unit := ((DataW.map []).put (.bool true) (.lit (.int .i64 c))).put (.bool false) (.lit (.int .i64 d))
def twoR (c d : Int) : DataW Unit := ((DataW.map []).put (.bool false) (.lit (.int .i64 d))).put (.bool true) (.lit (.int .i64 c))
abbrev OM (w : World) (b n : Nat) (D : DataW Unit) : Prop := w.ownsMap Tryd.prog 4 (plainElem (H := Unit) Tryd.prog 3) b n D
theorem look_of {w : World} {b n : Nat} {D : DataW Unit} {ok : Bool} {c : Int} (h : OM w b n D) (hc : D.atKey (.bool ok) (.lit (.int .i64 0)) = .lit (.int .i64 c)) :
    (Instr.lookup 40 (.map (some b)) (.bool ok) false).run Tryd.prog w = .ok (.int .i64 c) w := by
  obtain ⟨v, hrun, hat, _⟩ := World.ownsMap.lookup_int h (bool_keyed Tryd.underlying4) Tryd.underlying40 Tryd.underlying3 (zero3 w) (key_bool ok)
  rw [hrun]
  rw [hc] at hat
  injection hat with hat
  injection hat with _ hat
  rw [← hat]
theorem two_look {w : World} {b n : Nat} {c d : Int} (h : OM w b n (twoD c d)) (ok : Bool) :
    (Instr.lookup 40 (.map (some b)) (.bool ok) false).run Tryd.prog w = .ok (.int .i64 (if ok = true then c else d)) w := by
  cases ok
  · exact look_of h rfl
  · exact look_of h rfl
theorem two_lookR {w : World} {b n : Nat} {c d : Int} (h : OM w b n (twoR c d)) (ok : Bool) :
    (Instr.lookup 40 (.map (some b)) (.bool ok) false).run Tryd.prog w = .ok (.int .i64 (if ok = true then c else d)) w := by
  cases ok
  · exact look_of h rfl
  · exact look_of h rfl
theorem i64_wf {c : Int} (h1 : -9223372036854775808 ≤ c) (h2 : c ≤ 9223372036854775807) : (Lit.int .i64 c).wf = true := by
  simp [Lit.wf, show IntKind.i64.min = -9223372036854775808 from rfl, show IntKind.i64.max = 9223372036854775807 from rfl]; omega
theorem OM.made (w : World) : OM (w.alloc (.map #[] 0)) w.heap.size 0 (.map []) := World.ownsMap_made w Tryd.prog 4 _
theorem OM.below {w w' : World} {b n : Nat} {D : DataW Unit} (h : OM w b n D) (hb : Below w.heap.size w w') : OM w' b n D :=
  World.ownsMap.kept h (row := none) ⟨hb.os, hb.tape, hb.output, hb.size, fun k hk _ => hb.block k hk⟩ (by simp)
/-- Behind an insert into a map that is newer than B. -/
theorem below_ins {B b : Nat} {w w1 w2 : World} (h : Below B w w1) (h1 : B ≤ w1.heap.size) (hg : w1.grownBy w2 (some b)) (hb : B ≤ b) : Below B w w2 :=
  h.grown hg h1 (fun k hk => by injection hk with hk; omega)
end Go.Proofs.YtfhpckglckcdjaaDoor
