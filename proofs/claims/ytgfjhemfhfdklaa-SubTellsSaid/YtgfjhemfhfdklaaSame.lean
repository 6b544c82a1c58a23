/-
  Whether two messages are the same: the program's answer and the document's. Condition: lists of at most 2^20 elements.
-/
import Derived.Test.YtgfjhemfhfdklaaBox
import Derived.Deep.DeepCutAuto
import Derived.Deep.Cut
namespace Go.Proofs.Ytgfjhemfhfdklaa.Same
open Go.ChangeShapes Go.WideShapes Go.ChangeAt Go.RowKit
open Go.Proofs.Ytgfjhemfhfdklaa.Ms
open Go.Proofs.Ytgfjhemfhfdklaa.Box
set_option linter.unusedVariables false
set_option maxRecDepth 100000

theorem alloc_size (w : World) (o : Obj) : (w.alloc o).heap.size = w.heap.size + 1 := by show (w.heap.push o).size = _; simp

end Go.Proofs.Ytgfjhemfhfdklaa.Same
