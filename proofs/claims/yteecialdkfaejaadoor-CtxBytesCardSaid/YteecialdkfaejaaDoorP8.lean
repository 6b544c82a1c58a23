/-
  Whether a message is bare: the document's answer, kinds one. Condition: lists of at most 2^20 elements.
  Whether a message is bare: the document's answer, kinds 1 2 3 6. Condition: lists of at most 2^20 elements.
-/
import Derived.Test.YteecialdkfaejaaDoorOwn
namespace Go.Proofs.YteecialdkfaejaaDoor.RBare
open Go.ChangeShapes Go.WideShapes Go.ChangeAt Go.RowKit
open Go.Proofs.YteecialdkfaejaaDoor.Ms
open Go.Proofs.YteecialdkfaejaaDoor.Box
open Go.Proofs.YteecialdkfaejaaDoor.Same
open Go.Proofs.YteecialdkfaejaaDoor.SameP
open Go.Proofs.YteecialdkfaejaaDoor.Hs
open Go.Proofs.YteecialdkfaejaaDoor.Or
open Go.Proofs.YteecialdkfaejaaDoor.RSame
open Go.Proofs.YteecialdkfaejaaDoor.Own
set_option linter.unusedVariables false
set_option maxRecDepth 100000

/-- What stays while the copy is filled. -/
def S1 (w : World) (m : M) (W : World) : Prop := Bx W w.heap.size m ∧ Below w.heap.size w W
theorem S1.off {w W : World} {m : M} (h : S1 w m W) (p : Addr) (v : Value) (hp : p.block = w.heap.size + 1) : S1 w m (W.setCell p v) := ⟨h.1.off (by omega) v, h.2.setCell (by omega) v⟩
theorem S1.drew {w W : World} {m : M} (h : S1 w m W) : S1 w m W.drew := ⟨h.1, h.2.drew⟩
theorem Bx_drew {W : World} {b : Nat} {m : M} (h : Bx W b m) : Bx W.drew b m := h
def x0 (m : M) : M := { M.zero with kind := m.kind, sa := m.sa, sl := m.sl, sc := m.sc }
theorem start2 (w : World) (m m' : M) (z : Array Value) (hz : z.size = 25) : S1 w m (((w.alloc (.cells m.cells 40)).alloc (.cells z 40)).setRow (w.heap.size + 1) m'.cells) ∧ Bx (((w.alloc (.cells m.cells 40)).alloc (.cells z 40)).setRow (w.heap.size + 1) m'.cells) (w.heap.size + 1) m' := by
  have h := heap_alloc_new (w.alloc (.cells m.cells 40)) (.cells z 40)
  rw [alloc_size] at h
  exact ⟨⟨((Bx.new w m).old _).row (by omega) _, below_setRow (balloc (balloc (Below.refl _ _) _) _) (by omega) _⟩, setRow_heap _ _ z m'.cells _ _ h⟩

end Go.Proofs.YteecialdkfaejaaDoor.RBare
namespace Go.Proofs.YteecialdkfaejaaDoor.RBare
open Go.ChangeShapes Go.WideShapes Go.ChangeAt Go.RowKit
open Go.Proofs.YteecialdkfaejaaDoor.Ms
open Go.Proofs.YteecialdkfaejaaDoor.Box
open Go.Proofs.YteecialdkfaejaaDoor.Same
open Go.Proofs.YteecialdkfaejaaDoor.SameP
open Go.Proofs.YteecialdkfaejaaDoor.Hs
open Go.Proofs.YteecialdkfaejaaDoor.Or
open Go.Proofs.YteecialdkfaejaaDoor.RSame
open Go.Proofs.YteecialdkfaejaaDoor.Own
set_option linter.unusedVariables false
set_option maxRecDepth 100000

end Go.Proofs.YteecialdkfaejaaDoor.RBare
