/-
  Whether two messages are the same: the program's answer and the document's. Condition: lists of at most 2^20 elements.
-/
import Derived.Test.YtcpngemhnnijbaaBox
import Derived.Deep.DeepCutAuto
import Derived.Deep.Cut
namespace Go.Proofs.Ytcpngemhnnijbaa.Same
open Go.ChangeShapes Go.WideShapes Go.ChangeAt Go.RowKit
open Go.Proofs.Ytcpngemhnnijbaa.Ms
open Go.Proofs.Ytcpngemhnnijbaa.Box
set_option linter.unusedVariables false
set_option maxRecDepth 100000

theorem alloc_size (w : World) (o : Obj) : (w.alloc o).heap.size = w.heap.size + 1 := by show (w.heap.push o).size = _; simp

end Go.Proofs.Ytcpngemhnnijbaa.Same
