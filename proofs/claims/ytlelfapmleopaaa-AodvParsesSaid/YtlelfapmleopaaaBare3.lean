/-
  Whether a route request is bare, where all kinds' texts are there: the program's answer and the document's. Condition: lists of at most 2^20 elements.
-/
import Derived.Test.YtlelfapmleopaaaBare
import Derived.Test.YtlelfapmleopaaaQ1
namespace Go.Proofs.Ytlelfapmleopaaa.B3
open Go.ChangeShapes Go.WideShapes Go.ChangeAt Go.RowKit
open Go.Proofs.Ytlelfapmleopaaa.Ms
set_option linter.unusedVariables false
set_option maxRecDepth 100000
theorem bare_eq {m : M} (hk : m.kind = 3) : Bare.bareN m = Q1.bare m := by
  unfold Bare.bareN Q1.bare
  rw [(Bare.is_3 hk).1, (Bare.is_3 hk).2]
  rfl
theorem bare_any (m : M) (w : World) (hk : m.kind = 3) (hm : m.In w) :
    Calls Try.prog 41 #[.agg m.cells] w fun e w' => e = .returned (.bool (Q1.bare m)) ∧ Below w.heap.size w w' := by
  rw [← bare_eq hk]; exact Bare.bare_any m w hm
theorem rbare_any (m : M) (w : World) (hk : m.kind = 3) (hm : m.In w) :
    Calls Try.prog 46 #[.agg m.cells] w fun e w' => e = .returned (.bool (Q1.bare m)) ∧ Below w.heap.size w w' := by
  rw [← bare_eq hk]; exact Bare.rbare_any m w hm
end Go.Proofs.Ytlelfapmleopaaa.B3
