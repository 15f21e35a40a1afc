/-
  No cell of these rows narrows 'for every input' (looked for: loops, veiled, ifaces, maps, wideKeys, modest, calm, conditions, laid).
  DERIVED. THE GIVEN ROWS OF THIS SEAT. 5 by the template 'for every input the law returns true; each argument reads behind the call as it read before'; 0 by the template 'total and deterministic' (their statements: YtleghbhgddlehaaTotals.lean).
  GIVEN WITH THE SEED: the statements are not yours to turn. If you find one false, say at which input.
  Laid BY PROGRAM, IN A SANDBOX (cutbox-rows.mjs): the forced cells as the released guide's own fill.sh prints them over the translation 2abfb501d56fed9f… (all of the seat's roots in one cut). By AI agents, Wed Nov 11 2026. No macro, syntax, notation, axiom, sorry.
-/
import Derived.Test.YtleghbhgddlehaaChecked
import GoSem.Claim
import GoSem.ClaimJoined
import GoSem.ClaimMapViews
import Derived.JoinedTies
import Derived.KernelRfl
namespace Go.Proofs.Ytleghbhgddlehaa
/- THE CELL 'sum', in the pinned program and in every row, IS THE sha256 OF THE DUMP (.gsa) THAT YtleghbhgddlehaaProg.lean LOADS. Nothing in Lean hashes anything: it is a label: what it is worth is what the hold of that sum in a sandbox is worth. -/
noncomputable def Try.pinned : Pinned := { name := "ytleghbhgddlehaa", sum := "2abfb501d56fed9f6481e3986a4b6584ccc0e73ef4d22d1ca19e28badec7daa8", checked := Try.checked }
namespace Rows
def none {H : Type} : Left H := { results := [], args := [] }

/-- 'chronobatelaw11.MedianTells': WHATEVER THE INPUT: true; the input reads as it did. -/
def medianTellsSpec : ChangeSpec := { name := "medianTells", fn := fun _ => fun
  | [d1, d2] => { results := [.lit (.bool true)], args := [d1, d2] }
  | _ => none }
def medianTellsRow : OpenClaim := { program := "ytleghbhgddlehaa", sum := "2abfb501d56fed9f6481e3986a4b6584ccc0e73ef4d22d1ca19e28badec7daa8", func := "chronobate/chronobatelaw11.MedianTells", spec := "medianTells", recurses := true, apart := false }
def MedianTellsSaid : Prop := medianTellsRow.holds Try.pinned (OpenSpec.ofChange medianTellsSpec)

/-- ITS FALSE NEIGHBOUR: 'it returns false'. Refute it at one input. -/
def medianTellsWrong : ChangeSpec := { name := "medianTells", fn := fun _ => fun
  | [d1, d2] => { results := [.lit (.bool false)], args := [d1, d2] }
  | _ => none }
def MedianTellsWrongFalsely : Prop := medianTellsRow.holds Try.pinned (OpenSpec.ofChange medianTellsWrong)

/-- 'chronobatelaw11.MedianTexts': WHATEVER THE INPUT: true; the input reads as it did. -/
def medianTextsSpec : ChangeSpec := { name := "medianTexts", fn := fun _ => fun
  | [d] => { results := [.lit (.bool true)], args := [d] }
  | _ => none }
def medianTextsRow : OpenClaim := { program := "ytleghbhgddlehaa", sum := "2abfb501d56fed9f6481e3986a4b6584ccc0e73ef4d22d1ca19e28badec7daa8", func := "chronobate/chronobatelaw11.MedianTexts", spec := "medianTexts", recurses := true, apart := false }
def MedianTextsSaid : Prop := medianTextsRow.holds Try.pinned (OpenSpec.ofChange medianTextsSpec)

/-- ITS FALSE NEIGHBOUR: 'it returns false'. Refute it at one input. -/
def medianTextsWrong : ChangeSpec := { name := "medianTexts", fn := fun _ => fun
  | [d] => { results := [.lit (.bool false)], args := [d] }
  | _ => none }
def MedianTextsWrongFalsely : Prop := medianTextsRow.holds Try.pinned (OpenSpec.ofChange medianTextsWrong)

/-- 'chronobatelaw11.MedianLies': WHATEVER THE INPUT: true; the input reads as it did. -/
def medianLiesSpec : ChangeSpec := { name := "medianLies", fn := fun _ => fun
  | [d1, d2] => { results := [.lit (.bool true)], args := [d1, d2] }
  | _ => none }
def medianLiesRow : OpenClaim := { program := "ytleghbhgddlehaa", sum := "2abfb501d56fed9f6481e3986a4b6584ccc0e73ef4d22d1ca19e28badec7daa8", func := "chronobate/chronobatelaw11.MedianLies", spec := "medianLies", recurses := true, apart := false }
def MedianLiesSaid : Prop := medianLiesRow.holds Try.pinned (OpenSpec.ofChange medianLiesSpec)

/-- ITS FALSE NEIGHBOUR: 'it returns false'. Refute it at one input. -/
def medianLiesWrong : ChangeSpec := { name := "medianLies", fn := fun _ => fun
  | [d1, d2] => { results := [.lit (.bool false)], args := [d1, d2] }
  | _ => none }
def MedianLiesWrongFalsely : Prop := medianLiesRow.holds Try.pinned (OpenSpec.ofChange medianLiesWrong)

/-- 'chronobatelaw11.MedianMoves': WHATEVER THE INPUT: true; the input reads as it did. -/
def medianMovesSpec : ChangeSpec := { name := "medianMoves", fn := fun _ => fun
  | [d1, d2, d3] => { results := [.lit (.bool true)], args := [d1, d2, d3] }
  | _ => none }
def medianMovesRow : OpenClaim := { program := "ytleghbhgddlehaa", sum := "2abfb501d56fed9f6481e3986a4b6584ccc0e73ef4d22d1ca19e28badec7daa8", func := "chronobate/chronobatelaw11.MedianMoves", spec := "medianMoves", recurses := true, apart := false }
def MedianMovesSaid : Prop := medianMovesRow.holds Try.pinned (OpenSpec.ofChange medianMovesSpec)

/-- ITS FALSE NEIGHBOUR: 'it returns false'. Refute it at one input. -/
def medianMovesWrong : ChangeSpec := { name := "medianMoves", fn := fun _ => fun
  | [d1, d2, d3] => { results := [.lit (.bool false)], args := [d1, d2, d3] }
  | _ => none }
def MedianMovesWrongFalsely : Prop := medianMovesRow.holds Try.pinned (OpenSpec.ofChange medianMovesWrong)

/-- 'chronobatelaw11.MedianMore': WHATEVER THE INPUT: true; the input reads as it did. -/
def medianMoreSpec : ChangeSpec := { name := "medianMore", fn := fun _ => fun
  | [d] => { results := [.lit (.bool true)], args := [d] }
  | _ => none }
def medianMoreRow : OpenClaim := { program := "ytleghbhgddlehaa", sum := "2abfb501d56fed9f6481e3986a4b6584ccc0e73ef4d22d1ca19e28badec7daa8", func := "chronobate/chronobatelaw11.MedianMore", spec := "medianMore", recurses := true, apart := false }
def MedianMoreSaid : Prop := medianMoreRow.holds Try.pinned (OpenSpec.ofChange medianMoreSpec)

/-- ITS FALSE NEIGHBOUR: 'it returns false'. Refute it at one input. -/
def medianMoreWrong : ChangeSpec := { name := "medianMore", fn := fun _ => fun
  | [d] => { results := [.lit (.bool false)], args := [d] }
  | _ => none }
def MedianMoreWrongFalsely : Prop := medianMoreRow.holds Try.pinned (OpenSpec.ofChange medianMoreWrong)

/- THE SECOND FORM. 'bulk': how many values and letters a reading holds, each counted each time it is reached (what is shared counts as often as it is met; a slice's spare places count too). A statement '..UptoSaid' is the law's where the arguments, and the package variables that the reading takes, are together of bulk at most 1048576: NARROWER than '..Said'. Prove '..Said' where nothing that the law and all that it calls make is longer than what came in: it says more and counts as full. Else prove '..UptoSaid'. A law counts once. -/
mutual
def uptoBulk {H : Type} : DataW H → Nat
  | .lit (.string bytes) => bytes.length + 1
  | .lit _ => 1
  | .nil => 1
  | .ptr d => uptoBulk d + 1
  | .slice elems spare => uptoBulkAll elems + uptoBulkAll spare + 1
  | .agg parts => uptoBulkAll parts + 1
  | .iface _ d => uptoBulk d + 1
  | .map entries => uptoBulkEntries entries + 1
  | .held _ => 1
def uptoBulkAll {H : Type} : List (DataW H) → Nat
  | [] => 0
  | d :: r => uptoBulk d + uptoBulkAll r
def uptoBulkEntries {H : Type} : List (Lit × DataW H) → Nat
  | [] => 0
  | x :: r => uptoBulkEntry x + uptoBulkEntries r
def uptoBulkEntry {H : Type} : Lit × DataW H → Nat
  | (.string bytes, d) => bytes.length + uptoBulk d + 1
  | (_, d) => uptoBulk d + 1
 end
def uptoSmall : (H : Type) → List (DataW H) → Bool := fun _ ds => decide (uptoBulkAll ds ≤ 1048576)
def OpenSpec.upto (s : _root_.Go.ChangeSpec) : _root_.Go.OpenSpec := { _root_.Go.OpenSpec.ofChange s with cond := some uptoSmall }

/-- 'chronobatelaw11.MedianTells', WHERE WHAT IT READS IS OF BULK AT MOST 1048576: true; the input reads as it did. -/
def medianTellsUptoRow : OpenClaim := { program := "ytleghbhgddlehaa", sum := "2abfb501d56fed9f6481e3986a4b6584ccc0e73ef4d22d1ca19e28badec7daa8", func := "chronobate/chronobatelaw11.MedianTells", spec := "medianTells", recurses := true, apart := false, narrowed := true }
def MedianTellsUptoSaid : Prop := medianTellsUptoRow.holds Try.pinned (OpenSpec.upto medianTellsSpec)

/-- 'chronobatelaw11.MedianTexts', WHERE WHAT IT READS IS OF BULK AT MOST 1048576: true; the input reads as it did. -/
def medianTextsUptoRow : OpenClaim := { program := "ytleghbhgddlehaa", sum := "2abfb501d56fed9f6481e3986a4b6584ccc0e73ef4d22d1ca19e28badec7daa8", func := "chronobate/chronobatelaw11.MedianTexts", spec := "medianTexts", recurses := true, apart := false, narrowed := true }
def MedianTextsUptoSaid : Prop := medianTextsUptoRow.holds Try.pinned (OpenSpec.upto medianTextsSpec)

/-- 'chronobatelaw11.MedianLies', WHERE WHAT IT READS IS OF BULK AT MOST 1048576: true; the input reads as it did. -/
def medianLiesUptoRow : OpenClaim := { program := "ytleghbhgddlehaa", sum := "2abfb501d56fed9f6481e3986a4b6584ccc0e73ef4d22d1ca19e28badec7daa8", func := "chronobate/chronobatelaw11.MedianLies", spec := "medianLies", recurses := true, apart := false, narrowed := true }
def MedianLiesUptoSaid : Prop := medianLiesUptoRow.holds Try.pinned (OpenSpec.upto medianLiesSpec)

/-- 'chronobatelaw11.MedianMoves', WHERE WHAT IT READS IS OF BULK AT MOST 1048576: true; the input reads as it did. -/
def medianMovesUptoRow : OpenClaim := { program := "ytleghbhgddlehaa", sum := "2abfb501d56fed9f6481e3986a4b6584ccc0e73ef4d22d1ca19e28badec7daa8", func := "chronobate/chronobatelaw11.MedianMoves", spec := "medianMoves", recurses := true, apart := false, narrowed := true }
def MedianMovesUptoSaid : Prop := medianMovesUptoRow.holds Try.pinned (OpenSpec.upto medianMovesSpec)

/-- 'chronobatelaw11.MedianMore', WHERE WHAT IT READS IS OF BULK AT MOST 1048576: true; the input reads as it did. -/
def medianMoreUptoRow : OpenClaim := { program := "ytleghbhgddlehaa", sum := "2abfb501d56fed9f6481e3986a4b6584ccc0e73ef4d22d1ca19e28badec7daa8", func := "chronobate/chronobatelaw11.MedianMore", spec := "medianMore", recurses := true, apart := false, narrowed := true }
def MedianMoreUptoSaid : Prop := medianMoreUptoRow.holds Try.pinned (OpenSpec.upto medianMoreSpec)

end Rows
end Go.Proofs.Ytleghbhgddlehaa
