/-
  Whether two messages are the same: the program's answer. Condition: lists of at most 2^20 elements.
-/
import Derived.Test.YtgfjhemfhfdklaaSame
import Derived.Test.YtgfjhemfhfdklaaHs
namespace Go.Proofs.Ytgfjhemfhfdklaa.SameP
open Go.ChangeShapes Go.WideShapes Go.ChangeAt Go.RowKit
open Go.Proofs.Ytgfjhemfhfdklaa.Ms
open Go.Proofs.Ytgfjhemfhfdklaa.Box
open Go.Proofs.Ytgfjhemfhfdklaa.Eq
open Go.Proofs.Ytgfjhemfhfdklaa.Same
open Go.Proofs.Ytgfjhemfhfdklaa.Hs
set_option linter.unusedVariables false
set_option maxRecDepth 100000

theorem start (w : World) (m m' : M) : Bx ((w.alloc (.cells m.cells 38)).alloc (.cells m'.cells 38)) w.heap.size m ∧ Bx ((w.alloc (.cells m.cells 38)).alloc (.cells m'.cells 38)) (w.heap.size + 1) m' ∧ Below w.heap.size w ((w.alloc (.cells m.cells 38)).alloc (.cells m'.cells 38)) :=
  ⟨(Bx.new w m).old _, by have := Bx.new (w.alloc (.cells m.cells 38)) m'; rwa [alloc_size] at this, balloc (balloc (Below.refl _ _) _) _⟩

/-- What stays in a region over two messages. -/
def S2 (w : World) (a b : M) (W : World) : Prop := Bx W w.heap.size a ∧ Bx W (w.heap.size + 1) b ∧ a.In W ∧ b.In W ∧ Below w.heap.size w W
theorem S2.keep {w : World} {a b : M} (W w1 : World) (h : S2 w a b W) (hb : Below W.heap.size W w1) : S2 w a b w1 := ⟨h.1.below hb, h.2.1.below hb, h.2.2.1.below hb, h.2.2.2.1.below hb, bcall h.2.2.2.2 hb⟩

end Go.Proofs.Ytgfjhemfhfdklaa.SameP
