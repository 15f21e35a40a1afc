/-
  No cell of these rows narrows 'for every input' (looked for: loops, veiled, ifaces, maps, wideKeys, modest, calm, conditions, laid).
  DERIVED. THE GIVEN ROWS OF THIS SEAT. 6 by the template 'for every input the law returns true; each argument reads behind the call as it read before'; 0 by the template 'total and deterministic' (their statements: YtcmmhgalnfleoaaTotals.lean).
  GIVEN WITH THE SEED: the statements are not yours to turn. If you find one false, say at which input.
  Laid BY PROGRAM, IN A SANDBOX (cutbox-rows.mjs): the forced cells as the released guide's own fill.sh prints them over the translation 29c673fdbff6bef8… (all of the seat's roots in one cut). By AI agents, Wed Nov 11 2026. No macro, syntax, notation, axiom, sorry.
-/
import Derived.Test.YtcmmhgalnfleoaaChecked
import GoSem.Claim
import GoSem.ClaimJoined
import GoSem.ClaimMapViews
import Derived.JoinedTies
import Derived.KernelRfl
namespace Go.Proofs.Ytcmmhgalnfleoaa
/- THE CELL 'sum', in the pinned program and in every row, IS THE sha256 OF THE DUMP (.gsa) THAT YtcmmhgalnfleoaaProg.lean LOADS. Nothing in Lean hashes anything: it is a label: what it is worth is what the hold of that sum in a sandbox is worth. -/
noncomputable def Try.pinned : Pinned := { name := "ytcmmhgalnfleoaa", sum := "29c673fdbff6bef83a48b92c5cb8ea750279747fa86a5b14fae5e34ad8f78d24", checked := Try.checked }
namespace Rows
def none {H : Type} : Left H := { results := [], args := [] }

/-- 'chronobatelaw12.QuorumChooses': WHATEVER THE INPUT: true; the input reads as it did. -/
def quorumChoosesSpec : ChangeSpec := { name := "quorumChooses", fn := fun _ => fun
  | [d1, d2] => { results := [.lit (.bool true)], args := [d1, d2] }
  | _ => none }
def quorumChoosesRow : OpenClaim := { program := "ytcmmhgalnfleoaa", sum := "29c673fdbff6bef83a48b92c5cb8ea750279747fa86a5b14fae5e34ad8f78d24", func := "chronobate/chronobatelaw12.QuorumChooses", spec := "quorumChooses", recurses := true, apart := false }
def QuorumChoosesSaid : Prop := quorumChoosesRow.holds Try.pinned (OpenSpec.ofChange quorumChoosesSpec)

/-- ITS FALSE NEIGHBOUR: 'it returns false'. Refute it at one input. -/
def quorumChoosesWrong : ChangeSpec := { name := "quorumChooses", fn := fun _ => fun
  | [d1, d2] => { results := [.lit (.bool false)], args := [d1, d2] }
  | _ => none }
def QuorumChoosesWrongFalsely : Prop := quorumChoosesRow.holds Try.pinned (OpenSpec.ofChange quorumChoosesWrong)

/-- 'chronobatelaw12.QuorumSelects': WHATEVER THE INPUT: true; the input reads as it did. -/
def quorumSelectsSpec : ChangeSpec := { name := "quorumSelects", fn := fun _ => fun
  | [d1, d2, d3] => { results := [.lit (.bool true)], args := [d1, d2, d3] }
  | _ => none }
def quorumSelectsRow : OpenClaim := { program := "ytcmmhgalnfleoaa", sum := "29c673fdbff6bef83a48b92c5cb8ea750279747fa86a5b14fae5e34ad8f78d24", func := "chronobate/chronobatelaw12.QuorumSelects", spec := "quorumSelects", unfollowed := true, recurses := true, apart := false }
def QuorumSelectsSaid : Prop := quorumSelectsRow.holds Try.pinned (OpenSpec.ofChange quorumSelectsSpec)

/-- ITS FALSE NEIGHBOUR: 'it returns false'. Refute it at one input. -/
def quorumSelectsWrong : ChangeSpec := { name := "quorumSelects", fn := fun _ => fun
  | [d1, d2, d3] => { results := [.lit (.bool false)], args := [d1, d2, d3] }
  | _ => none }
def QuorumSelectsWrongFalsely : Prop := quorumSelectsRow.holds Try.pinned (OpenSpec.ofChange quorumSelectsWrong)

/-- 'chronobatelaw12.QuorumLies': WHATEVER THE INPUT: true; the input reads as it did. -/
def quorumLiesSpec : ChangeSpec := { name := "quorumLies", fn := fun _ => fun
  | [d1, d2, d3] => { results := [.lit (.bool true)], args := [d1, d2, d3] }
  | _ => none }
def quorumLiesRow : OpenClaim := { program := "ytcmmhgalnfleoaa", sum := "29c673fdbff6bef83a48b92c5cb8ea750279747fa86a5b14fae5e34ad8f78d24", func := "chronobate/chronobatelaw12.QuorumLies", spec := "quorumLies", recurses := true, apart := false }
def QuorumLiesSaid : Prop := quorumLiesRow.holds Try.pinned (OpenSpec.ofChange quorumLiesSpec)

/-- ITS FALSE NEIGHBOUR: 'it returns false'. Refute it at one input. -/
def quorumLiesWrong : ChangeSpec := { name := "quorumLies", fn := fun _ => fun
  | [d1, d2, d3] => { results := [.lit (.bool false)], args := [d1, d2, d3] }
  | _ => none }
def QuorumLiesWrongFalsely : Prop := quorumLiesRow.holds Try.pinned (OpenSpec.ofChange quorumLiesWrong)

/-- 'chronobatelaw12.QuorumEnough': WHATEVER THE INPUT: true; the input reads as it did. -/
def quorumEnoughSpec : ChangeSpec := { name := "quorumEnough", fn := fun _ => fun
  | [d1, d2, d3] => { results := [.lit (.bool true)], args := [d1, d2, d3] }
  | _ => none }
def quorumEnoughRow : OpenClaim := { program := "ytcmmhgalnfleoaa", sum := "29c673fdbff6bef83a48b92c5cb8ea750279747fa86a5b14fae5e34ad8f78d24", func := "chronobate/chronobatelaw12.QuorumEnough", spec := "quorumEnough", recurses := true, apart := false }
def QuorumEnoughSaid : Prop := quorumEnoughRow.holds Try.pinned (OpenSpec.ofChange quorumEnoughSpec)

/-- ITS FALSE NEIGHBOUR: 'it returns false'. Refute it at one input. -/
def quorumEnoughWrong : ChangeSpec := { name := "quorumEnough", fn := fun _ => fun
  | [d1, d2, d3] => { results := [.lit (.bool false)], args := [d1, d2, d3] }
  | _ => none }
def QuorumEnoughWrongFalsely : Prop := quorumEnoughRow.holds Try.pinned (OpenSpec.ofChange quorumEnoughWrong)

/-- 'chronobatelaw12.QuorumOne': WHATEVER THE INPUT: true; the input reads as it did. -/
def quorumOneSpec : ChangeSpec := { name := "quorumOne", fn := fun _ => fun
  | [d1, d2, d3] => { results := [.lit (.bool true)], args := [d1, d2, d3] }
  | _ => none }
def quorumOneRow : OpenClaim := { program := "ytcmmhgalnfleoaa", sum := "29c673fdbff6bef83a48b92c5cb8ea750279747fa86a5b14fae5e34ad8f78d24", func := "chronobate/chronobatelaw12.QuorumOne", spec := "quorumOne", recurses := true, apart := false }
def QuorumOneSaid : Prop := quorumOneRow.holds Try.pinned (OpenSpec.ofChange quorumOneSpec)

/-- ITS FALSE NEIGHBOUR: 'it returns false'. Refute it at one input. -/
def quorumOneWrong : ChangeSpec := { name := "quorumOne", fn := fun _ => fun
  | [d1, d2, d3] => { results := [.lit (.bool false)], args := [d1, d2, d3] }
  | _ => none }
def QuorumOneWrongFalsely : Prop := quorumOneRow.holds Try.pinned (OpenSpec.ofChange quorumOneWrong)

/-- 'chronobatelaw12.QuorumMoves': WHATEVER THE INPUT: true; the input reads as it did. -/
def quorumMovesSpec : ChangeSpec := { name := "quorumMoves", fn := fun _ => fun
  | [d1, d2, d3] => { results := [.lit (.bool true)], args := [d1, d2, d3] }
  | _ => none }
def quorumMovesRow : OpenClaim := { program := "ytcmmhgalnfleoaa", sum := "29c673fdbff6bef83a48b92c5cb8ea750279747fa86a5b14fae5e34ad8f78d24", func := "chronobate/chronobatelaw12.QuorumMoves", spec := "quorumMoves", unfollowed := true, recurses := true, apart := false }
def QuorumMovesSaid : Prop := quorumMovesRow.holds Try.pinned (OpenSpec.ofChange quorumMovesSpec)

/-- ITS FALSE NEIGHBOUR: 'it returns false'. Refute it at one input. -/
def quorumMovesWrong : ChangeSpec := { name := "quorumMoves", fn := fun _ => fun
  | [d1, d2, d3] => { results := [.lit (.bool false)], args := [d1, d2, d3] }
  | _ => none }
def QuorumMovesWrongFalsely : Prop := quorumMovesRow.holds Try.pinned (OpenSpec.ofChange quorumMovesWrong)

/- THE SECOND FORM. 'bulk': how many values and letters a reading holds, each counted each time it is reached (what is shared counts as often as it is met; a slice's spare places count too). A statement '..UptoSaid' is the law's where the arguments, and the package variables that the reading takes, are together of bulk at most 1048576: NARROWER than '..Said'. Prove '..Said' where nothing that the law and all that it calls make is longer than what came in: it says more and counts as full. Else prove '..UptoSaid'. A law counts once. -/
mutual
def uptoBulk {H : Type} : DataW H → Nat
  | .lit (.string bytes) => bytes.length + 1
  | .lit _ => 1
  | .nil => 1
  | .ptr d => uptoBulk d + 1
  | .slice elems spare => uptoBulkAll elems + uptoBulkAll spare + 1
  | .agg parts => uptoBulkAll parts + 1
  | .iface _ d => uptoBulk d + 1
  | .map entries => uptoBulkEntries entries + 1
  | .held _ => 1
def uptoBulkAll {H : Type} : List (DataW H) → Nat
  | [] => 0
  | d :: r => uptoBulk d + uptoBulkAll r
def uptoBulkEntries {H : Type} : List (Lit × DataW H) → Nat
  | [] => 0
  | x :: r => uptoBulkEntry x + uptoBulkEntries r
def uptoBulkEntry {H : Type} : Lit × DataW H → Nat
  | (.string bytes, d) => bytes.length + uptoBulk d + 1
  | (_, d) => uptoBulk d + 1
 end
def uptoSmall : (H : Type) → List (DataW H) → Bool := fun _ ds => decide (uptoBulkAll ds ≤ 1048576)
def OpenSpec.upto (s : _root_.Go.ChangeSpec) : _root_.Go.OpenSpec := { _root_.Go.OpenSpec.ofChange s with cond := some uptoSmall }

/-- 'chronobatelaw12.QuorumChooses', WHERE WHAT IT READS IS OF BULK AT MOST 1048576: true; the input reads as it did. -/
def quorumChoosesUptoRow : OpenClaim := { program := "ytcmmhgalnfleoaa", sum := "29c673fdbff6bef83a48b92c5cb8ea750279747fa86a5b14fae5e34ad8f78d24", func := "chronobate/chronobatelaw12.QuorumChooses", spec := "quorumChooses", recurses := true, apart := false, narrowed := true }
def QuorumChoosesUptoSaid : Prop := quorumChoosesUptoRow.holds Try.pinned (OpenSpec.upto quorumChoosesSpec)

/-- 'chronobatelaw12.QuorumSelects', WHERE WHAT IT READS IS OF BULK AT MOST 1048576: true; the input reads as it did. -/
def quorumSelectsUptoRow : OpenClaim := { program := "ytcmmhgalnfleoaa", sum := "29c673fdbff6bef83a48b92c5cb8ea750279747fa86a5b14fae5e34ad8f78d24", func := "chronobate/chronobatelaw12.QuorumSelects", spec := "quorumSelects", unfollowed := true, recurses := true, apart := false, narrowed := true }
def QuorumSelectsUptoSaid : Prop := quorumSelectsUptoRow.holds Try.pinned (OpenSpec.upto quorumSelectsSpec)

/-- 'chronobatelaw12.QuorumLies', WHERE WHAT IT READS IS OF BULK AT MOST 1048576: true; the input reads as it did. -/
def quorumLiesUptoRow : OpenClaim := { program := "ytcmmhgalnfleoaa", sum := "29c673fdbff6bef83a48b92c5cb8ea750279747fa86a5b14fae5e34ad8f78d24", func := "chronobate/chronobatelaw12.QuorumLies", spec := "quorumLies", recurses := true, apart := false, narrowed := true }
def QuorumLiesUptoSaid : Prop := quorumLiesUptoRow.holds Try.pinned (OpenSpec.upto quorumLiesSpec)

/-- 'chronobatelaw12.QuorumEnough', WHERE WHAT IT READS IS OF BULK AT MOST 1048576: true; the input reads as it did. -/
def quorumEnoughUptoRow : OpenClaim := { program := "ytcmmhgalnfleoaa", sum := "29c673fdbff6bef83a48b92c5cb8ea750279747fa86a5b14fae5e34ad8f78d24", func := "chronobate/chronobatelaw12.QuorumEnough", spec := "quorumEnough", recurses := true, apart := false, narrowed := true }
def QuorumEnoughUptoSaid : Prop := quorumEnoughUptoRow.holds Try.pinned (OpenSpec.upto quorumEnoughSpec)

/-- 'chronobatelaw12.QuorumOne', WHERE WHAT IT READS IS OF BULK AT MOST 1048576: true; the input reads as it did. -/
def quorumOneUptoRow : OpenClaim := { program := "ytcmmhgalnfleoaa", sum := "29c673fdbff6bef83a48b92c5cb8ea750279747fa86a5b14fae5e34ad8f78d24", func := "chronobate/chronobatelaw12.QuorumOne", spec := "quorumOne", recurses := true, apart := false, narrowed := true }
def QuorumOneUptoSaid : Prop := quorumOneUptoRow.holds Try.pinned (OpenSpec.upto quorumOneSpec)

/-- 'chronobatelaw12.QuorumMoves', WHERE WHAT IT READS IS OF BULK AT MOST 1048576: true; the input reads as it did. -/
def quorumMovesUptoRow : OpenClaim := { program := "ytcmmhgalnfleoaa", sum := "29c673fdbff6bef83a48b92c5cb8ea750279747fa86a5b14fae5e34ad8f78d24", func := "chronobate/chronobatelaw12.QuorumMoves", spec := "quorumMoves", unfollowed := true, recurses := true, apart := false, narrowed := true }
def QuorumMovesUptoSaid : Prop := quorumMovesUptoRow.holds Try.pinned (OpenSpec.upto quorumMovesSpec)

end Rows
end Go.Proofs.Ytcmmhgalnfleoaa
