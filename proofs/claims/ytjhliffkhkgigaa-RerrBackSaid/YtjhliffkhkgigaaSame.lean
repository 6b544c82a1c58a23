/-
  Whether two messages are the same: the program's answer and the document's. Condition: lists of at most 2^20 elements.
-/
import Derived.Test.YtjhliffkhkgigaaBox
import Derived.Deep.DeepCutAuto
import Derived.Deep.Cut
namespace Go.Proofs.Ytjhliffkhkgigaa.Same
open Go.ChangeShapes Go.WideShapes Go.ChangeAt Go.RowKit
open Go.Proofs.Ytjhliffkhkgigaa.Ms
open Go.Proofs.Ytjhliffkhkgigaa.Box
set_option linter.unusedVariables false
set_option maxRecDepth 100000

theorem alloc_size (w : World) (o : Obj) : (w.alloc o).heap.size = w.heap.size + 1 := by show (w.heap.push o).size = _; simp

set_option maxHeartbeats 1600000 in
set_option maxRecDepth 100000 in
theorem flatten_any (m : M) (w : World) :
    Calls Try.prog 51 #[.agg m.cells] w fun e w' => e = .returned (.agg m.flat) ∧ Below w.heap.size w w' := by
  have hb := Bx.new w m
  have hbel := balloc (Below.refl _ w) (.cells m.cells 25)
  have hsz := alloc_size w (.cells m.cells 25)
  go_enter Try.func51, Try.ntmps51
  go_upto_region 1 with fail
  generalize w.alloc (.cells m.cells 25) = W at *
  have hz : W.heap.size = w.heap.size + 1 := hsz
  have h2 := heap_alloc_new W (.cells M.zero.flat 76)
  rw [hz] at h2
  have hb2 := hb.old (.cells M.zero.flat 76)
  have hbel2 := balloc hbel (.cells M.zero.flat 76)
  clear hsz hz hb hbel
  change Code.wp _ _ _ _ (W.alloc (.cells M.zero.flat 76))
  generalize W.alloc (.cells M.zero.flat 76) = V at *
  clear W
  obtain ⟨c0, c1, c2, c3, c4, c5, c6, c7, c8, c9, c10, c11, c12, c13, c14, c15, c16, c17, c18, c19, c20, c21, c22, c23, c24⟩ := hb2.cs
  have H2 := Lib.hid h2
  clear h2 hb2 c21 c24
  go_wp2_with (first | (refine wpList_built rfl 76 _ rfl m.flat (by kernel_rfl) ?_) | (refine wpList_store_row rfl 76 _ _ rfl (w.heap.size + 1) m.flat rfl rfl 76 M.zero.flat H2.out infoF rfl (oneF m) ?_))
  exact bodyPost_ret (v := .agg m.flat) (results_cell_row (p := 2) (ty := 76) rfl _ _ (w.heap.size + 1) 76 m.flat (0, 0) _ rfl (setRow_heap V (w.heap.size + 1) M.zero.flat m.flat 76 _ H2.out) Try.underlying76 rfl infoF) rfl ⟨rfl, below_setRow hbel2 (by omega) _⟩
end Go.Proofs.Ytjhliffkhkgigaa.Same
