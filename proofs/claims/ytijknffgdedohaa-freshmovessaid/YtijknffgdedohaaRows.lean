/-
  No cell of these rows narrows 'for every input' (looked for: loops, veiled, ifaces, maps, wideKeys, modest, calm, conditions, laid).
  DERIVED. THE GIVEN ROWS OF THIS SEAT. 6 by the template 'for every input the law returns true; each argument reads behind the call as it read before'; 0 by the template 'total and deterministic' (their statements: YtijknffgdedohaaTotals.lean).
  GIVEN WITH THE SEED: the statements are not yours to turn. If you find one false, say at which input.
  Laid BY PROGRAM, IN A SANDBOX (cutbox-rows.mjs): the forced cells as the released guide's own fill.sh prints them over the translation 2425b5541e79b06e… (all of the seat's roots in one cut). By AI agents, Wed Nov 11 2026. No macro, syntax, notation, axiom, sorry.
-/
import Derived.Test.YtijknffgdedohaaChecked
import GoSem.Claim
import GoSem.ClaimJoined
import GoSem.ClaimMapViews
import Derived.JoinedTies
import Derived.KernelRfl
namespace Go.Proofs.Ytijknffgdedohaa
/- THE CELL 'sum', in the pinned program and in every row, IS THE sha256 OF THE DUMP (.gsa) THAT YtijknffgdedohaaProg.lean LOADS. Nothing in Lean hashes anything: it is a label: what it is worth is what the hold of that sum in a sandbox is worth. -/
noncomputable def Try.pinned : Pinned := { name := "ytijknffgdedohaa", sum := "2425b5541e79b06ea9836287a4e503e4b67831332713b2f857af3540d49d76da", checked := Try.checked }
namespace Rows
def none {H : Type} : Left H := { results := [], args := [] }

/-- 'chronobatelaw10.FreshBests': WHATEVER THE INPUT: true; the input reads as it did. -/
def freshBestsSpec : ChangeSpec := { name := "freshBests", fn := fun _ => fun
  | [d1, d2] => { results := [.lit (.bool true)], args := [d1, d2] }
  | _ => none }
def freshBestsRow : OpenClaim := { program := "ytijknffgdedohaa", sum := "2425b5541e79b06ea9836287a4e503e4b67831332713b2f857af3540d49d76da", func := "chronobate/chronobatelaw10.FreshBests", spec := "freshBests", unfollowed := true, recurses := true, apart := false }
def FreshBestsSaid : Prop := freshBestsRow.holds Try.pinned (OpenSpec.ofChange freshBestsSpec)

/-- ITS FALSE NEIGHBOUR: 'it returns false'. Refute it at one input. -/
def freshBestsWrong : ChangeSpec := { name := "freshBests", fn := fun _ => fun
  | [d1, d2] => { results := [.lit (.bool false)], args := [d1, d2] }
  | _ => none }
def FreshBestsWrongFalsely : Prop := freshBestsRow.holds Try.pinned (OpenSpec.ofChange freshBestsWrong)

/-- 'chronobatelaw10.FreshNone': WHATEVER THE INPUT: true; the input reads as it did. -/
def freshNoneSpec : ChangeSpec := { name := "freshNone", fn := fun _ => fun
  | [d1, d2] => { results := [.lit (.bool true)], args := [d1, d2] }
  | _ => none }
def freshNoneRow : OpenClaim := { program := "ytijknffgdedohaa", sum := "2425b5541e79b06ea9836287a4e503e4b67831332713b2f857af3540d49d76da", func := "chronobate/chronobatelaw10.FreshNone", spec := "freshNone", unfollowed := true, recurses := true, apart := false }
def FreshNoneSaid : Prop := freshNoneRow.holds Try.pinned (OpenSpec.ofChange freshNoneSpec)

/-- ITS FALSE NEIGHBOUR: 'it returns false'. Refute it at one input. -/
def freshNoneWrong : ChangeSpec := { name := "freshNone", fn := fun _ => fun
  | [d1, d2] => { results := [.lit (.bool false)], args := [d1, d2] }
  | _ => none }
def FreshNoneWrongFalsely : Prop := freshNoneRow.holds Try.pinned (OpenSpec.ofChange freshNoneWrong)

/-- 'chronobatelaw10.FreshLeast': WHATEVER THE INPUT: true; the input reads as it did. -/
def freshLeastSpec : ChangeSpec := { name := "freshLeast", fn := fun _ => fun
  | [d1, d2] => { results := [.lit (.bool true)], args := [d1, d2] }
  | _ => none }
def freshLeastRow : OpenClaim := { program := "ytijknffgdedohaa", sum := "2425b5541e79b06ea9836287a4e503e4b67831332713b2f857af3540d49d76da", func := "chronobate/chronobatelaw10.FreshLeast", spec := "freshLeast", unfollowed := true, recurses := true, apart := false }
def FreshLeastSaid : Prop := freshLeastRow.holds Try.pinned (OpenSpec.ofChange freshLeastSpec)

/-- ITS FALSE NEIGHBOUR: 'it returns false'. Refute it at one input. -/
def freshLeastWrong : ChangeSpec := { name := "freshLeast", fn := fun _ => fun
  | [d1, d2] => { results := [.lit (.bool false)], args := [d1, d2] }
  | _ => none }
def FreshLeastWrongFalsely : Prop := freshLeastRow.holds Try.pinned (OpenSpec.ofChange freshLeastWrong)

/-- 'chronobatelaw10.FreshMoves': WHATEVER THE INPUT: true; the input reads as it did. -/
def freshMovesSpec : ChangeSpec := { name := "freshMoves", fn := fun _ => fun
  | [d1, d2, d3] => { results := [.lit (.bool true)], args := [d1, d2, d3] }
  | _ => none }
def freshMovesRow : OpenClaim := { program := "ytijknffgdedohaa", sum := "2425b5541e79b06ea9836287a4e503e4b67831332713b2f857af3540d49d76da", func := "chronobate/chronobatelaw10.FreshMoves", spec := "freshMoves", unfollowed := true, recurses := true, apart := false }
def FreshMovesSaid : Prop := freshMovesRow.holds Try.pinned (OpenSpec.ofChange freshMovesSpec)

/-- ITS FALSE NEIGHBOUR: 'it returns false'. Refute it at one input. -/
def freshMovesWrong : ChangeSpec := { name := "freshMoves", fn := fun _ => fun
  | [d1, d2, d3] => { results := [.lit (.bool false)], args := [d1, d2, d3] }
  | _ => none }
def FreshMovesWrongFalsely : Prop := freshMovesRow.holds Try.pinned (OpenSpec.ofChange freshMovesWrong)

/-- 'chronobatelaw10.FreshLast': WHATEVER THE INPUT: true; the input reads as it did. -/
def freshLastSpec : ChangeSpec := { name := "freshLast", fn := fun _ => fun
  | [d1, d2, d3] => { results := [.lit (.bool true)], args := [d1, d2, d3] }
  | _ => none }
def freshLastRow : OpenClaim := { program := "ytijknffgdedohaa", sum := "2425b5541e79b06ea9836287a4e503e4b67831332713b2f857af3540d49d76da", func := "chronobate/chronobatelaw10.FreshLast", spec := "freshLast", unfollowed := true, recurses := true, apart := false }
def FreshLastSaid : Prop := freshLastRow.holds Try.pinned (OpenSpec.ofChange freshLastSpec)

/-- ITS FALSE NEIGHBOUR: 'it returns false'. Refute it at one input. -/
def freshLastWrong : ChangeSpec := { name := "freshLast", fn := fun _ => fun
  | [d1, d2, d3] => { results := [.lit (.bool false)], args := [d1, d2, d3] }
  | _ => none }
def FreshLastWrongFalsely : Prop := freshLastRow.holds Try.pinned (OpenSpec.ofChange freshLastWrong)

/-- 'chronobatelaw10.FreshKeeps': WHATEVER THE INPUT: true; the input reads as it did. -/
def freshKeepsSpec : ChangeSpec := { name := "freshKeeps", fn := fun _ => fun
  | [d1, d2] => { results := [.lit (.bool true)], args := [d1, d2] }
  | _ => none }
def freshKeepsRow : OpenClaim := { program := "ytijknffgdedohaa", sum := "2425b5541e79b06ea9836287a4e503e4b67831332713b2f857af3540d49d76da", func := "chronobate/chronobatelaw10.FreshKeeps", spec := "freshKeeps", unfollowed := true, recurses := true, apart := false }
def FreshKeepsSaid : Prop := freshKeepsRow.holds Try.pinned (OpenSpec.ofChange freshKeepsSpec)

/-- ITS FALSE NEIGHBOUR: 'it returns false'. Refute it at one input. -/
def freshKeepsWrong : ChangeSpec := { name := "freshKeeps", fn := fun _ => fun
  | [d1, d2] => { results := [.lit (.bool false)], args := [d1, d2] }
  | _ => none }
def FreshKeepsWrongFalsely : Prop := freshKeepsRow.holds Try.pinned (OpenSpec.ofChange freshKeepsWrong)

/- THE SECOND FORM. 'bulk': how many values and letters a reading holds, each counted each time it is reached (what is shared counts as often as it is met; a slice's spare places count too). A statement '..UptoSaid' is the law's where the arguments, and the package variables that the reading takes, are together of bulk at most 1048576: NARROWER than '..Said'. Prove '..Said' where nothing that the law and all that it calls make is longer than what came in: it says more and counts as full. Else prove '..UptoSaid'. A law counts once. -/
mutual
def uptoBulk {H : Type} : DataW H → Nat
  | .lit (.string bytes) => bytes.length + 1
  | .lit _ => 1
  | .nil => 1
  | .ptr d => uptoBulk d + 1
  | .slice elems spare => uptoBulkAll elems + uptoBulkAll spare + 1
  | .agg parts => uptoBulkAll parts + 1
  | .iface _ d => uptoBulk d + 1
  | .map entries => uptoBulkEntries entries + 1
  | .held _ => 1
def uptoBulkAll {H : Type} : List (DataW H) → Nat
  | [] => 0
  | d :: r => uptoBulk d + uptoBulkAll r
def uptoBulkEntries {H : Type} : List (Lit × DataW H) → Nat
  | [] => 0
  | x :: r => uptoBulkEntry x + uptoBulkEntries r
def uptoBulkEntry {H : Type} : Lit × DataW H → Nat
  | (.string bytes, d) => bytes.length + uptoBulk d + 1
  | (_, d) => uptoBulk d + 1
 end
def uptoSmall : (H : Type) → List (DataW H) → Bool := fun _ ds => decide (uptoBulkAll ds ≤ 1048576)
def OpenSpec.upto (s : _root_.Go.ChangeSpec) : _root_.Go.OpenSpec := { _root_.Go.OpenSpec.ofChange s with cond := some uptoSmall }

/-- 'chronobatelaw10.FreshBests', WHERE WHAT IT READS IS OF BULK AT MOST 1048576: true; the input reads as it did. -/
def freshBestsUptoRow : OpenClaim := { program := "ytijknffgdedohaa", sum := "2425b5541e79b06ea9836287a4e503e4b67831332713b2f857af3540d49d76da", func := "chronobate/chronobatelaw10.FreshBests", spec := "freshBests", unfollowed := true, recurses := true, apart := false, narrowed := true }
def FreshBestsUptoSaid : Prop := freshBestsUptoRow.holds Try.pinned (OpenSpec.upto freshBestsSpec)

/-- 'chronobatelaw10.FreshNone', WHERE WHAT IT READS IS OF BULK AT MOST 1048576: true; the input reads as it did. -/
def freshNoneUptoRow : OpenClaim := { program := "ytijknffgdedohaa", sum := "2425b5541e79b06ea9836287a4e503e4b67831332713b2f857af3540d49d76da", func := "chronobate/chronobatelaw10.FreshNone", spec := "freshNone", unfollowed := true, recurses := true, apart := false, narrowed := true }
def FreshNoneUptoSaid : Prop := freshNoneUptoRow.holds Try.pinned (OpenSpec.upto freshNoneSpec)

/-- 'chronobatelaw10.FreshLeast', WHERE WHAT IT READS IS OF BULK AT MOST 1048576: true; the input reads as it did. -/
def freshLeastUptoRow : OpenClaim := { program := "ytijknffgdedohaa", sum := "2425b5541e79b06ea9836287a4e503e4b67831332713b2f857af3540d49d76da", func := "chronobate/chronobatelaw10.FreshLeast", spec := "freshLeast", unfollowed := true, recurses := true, apart := false, narrowed := true }
def FreshLeastUptoSaid : Prop := freshLeastUptoRow.holds Try.pinned (OpenSpec.upto freshLeastSpec)

/-- 'chronobatelaw10.FreshMoves', WHERE WHAT IT READS IS OF BULK AT MOST 1048576: true; the input reads as it did. -/
def freshMovesUptoRow : OpenClaim := { program := "ytijknffgdedohaa", sum := "2425b5541e79b06ea9836287a4e503e4b67831332713b2f857af3540d49d76da", func := "chronobate/chronobatelaw10.FreshMoves", spec := "freshMoves", unfollowed := true, recurses := true, apart := false, narrowed := true }
def FreshMovesUptoSaid : Prop := freshMovesUptoRow.holds Try.pinned (OpenSpec.upto freshMovesSpec)

/-- 'chronobatelaw10.FreshLast', WHERE WHAT IT READS IS OF BULK AT MOST 1048576: true; the input reads as it did. -/
def freshLastUptoRow : OpenClaim := { program := "ytijknffgdedohaa", sum := "2425b5541e79b06ea9836287a4e503e4b67831332713b2f857af3540d49d76da", func := "chronobate/chronobatelaw10.FreshLast", spec := "freshLast", unfollowed := true, recurses := true, apart := false, narrowed := true }
def FreshLastUptoSaid : Prop := freshLastUptoRow.holds Try.pinned (OpenSpec.upto freshLastSpec)

/-- 'chronobatelaw10.FreshKeeps', WHERE WHAT IT READS IS OF BULK AT MOST 1048576: true; the input reads as it did. -/
def freshKeepsUptoRow : OpenClaim := { program := "ytijknffgdedohaa", sum := "2425b5541e79b06ea9836287a4e503e4b67831332713b2f857af3540d49d76da", func := "chronobate/chronobatelaw10.FreshKeeps", spec := "freshKeeps", unfollowed := true, recurses := true, apart := false, narrowed := true }
def FreshKeepsUptoSaid : Prop := freshKeepsUptoRow.holds Try.pinned (OpenSpec.upto freshKeepsSpec)

end Rows
end Go.Proofs.Ytijknffgdedohaa
