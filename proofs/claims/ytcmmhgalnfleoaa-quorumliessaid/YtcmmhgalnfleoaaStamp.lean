/- The calls of package stamp and of the document's answers, each by its number, on whole numbers: what each returns. -/
import Derived.Test.YtcmmhgalnfleoaaRows
import Derived.Test.YtcmmhgalnfleoaaSat
import Derived.Test.YtcmmhgalnfleoaaMem
import Derived.WalkKit
import Derived.WalkSpells
import Derived.Laws.BitsLemmas
import Derived.Lib.Hide
import Derived.Deep.RegionWith
namespace Go.Proofs.Ytcmmhgalnfleoaa
open Go.RowKit

theorem bel_drew {w wi : World} (h : Below w.drew.heap.size w.drew wi) : Below w.heap.size w wi := ⟨h.os, h.tape, h.output, h.size, h.block⟩
theorem bel_alloc (w : World) (o : Obj) : Below w.heap.size w (w.alloc o) := (Below.refl _ _).alloc (Nat.le_refl _) o

end Go.Proofs.Ytcmmhgalnfleoaa
