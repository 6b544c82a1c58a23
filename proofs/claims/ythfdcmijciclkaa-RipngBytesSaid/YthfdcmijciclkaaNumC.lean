/-
  What Num answers of a cursor that may be.
-/
import Derived.Test.YthfdcmijciclkaaNum
namespace Go.Proofs.Ythfdcmijciclkaa.Cur
open Go.ChangeShapes Go.WideShapes Go.ChangeAt Go.RowKit
set_option linter.unusedVariables false
set_option maxRecDepth 100000

theorem numL_nil : numL [] = 0 := rfl

/-- what Num does with a size -/
def sizeB (k : Int) : Bool := decide (1 ≤ k) && decide (k ≤ 7)

theorem number_ext (s : ByteArray) (a k : Nat) (h : a + k ≤ s.size) (hk : k ≤ 7) : (s.extract a (a + k)).size ≤ 7 := by
  simp; omega

end Go.Proofs.Ythfdcmijciclkaa.Cur
