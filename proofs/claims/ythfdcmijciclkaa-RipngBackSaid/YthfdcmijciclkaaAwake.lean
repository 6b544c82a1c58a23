/-
  The document's example holds, in whatever world it is asked.
-/
import Derived.Test.YthfdcmijciclkaaKeep
namespace Go.Proofs.Ythfdcmijciclkaa.Bits
open Go.ChangeShapes Go.WideShapes Go.ChangeAt Go.RowKit
set_option linter.unusedVariables false
set_option maxRecDepth 100000

theorem bcell {W w1 : World} (hb : Below W.heap.size W w1) : (∀ b o, b < W.heap.size → w1.cell? ⟨b, o, none⟩ = W.cell? ⟨b, o, none⟩) ∧ (∀ b o, b < W.heap.size → w1.frozen? ⟨b, o, none⟩ = W.frozen? ⟨b, o, none⟩) :=
  ⟨fun b o h => hb.cell (p := ⟨b, o, none⟩) h, fun b o h => hb.frozen (p := ⟨b, o, none⟩) h⟩

theorem bcall {w W w1 : World} (h : Below w.heap.size w W) (hb : Below W.heap.size W w1) : Below w.heap.size w w1 := h.trans (hb.mono h.size)

theorem ex_keep : keepL (ByteArray.mk #[255, 255]).data.toList (12 : Int).toNat = [255, 240] := by decide
theorem ex_b7 : bitZ (ByteArray.mk #[1]) 7 = true := by decide
theorem ex_b6 : bitZ (ByteArray.mk #[1]) 6 = false := by decide
theorem ex_alike : alikeN (ByteArray.mk #[255, 0]).data.toList (ByteArray.mk #[255, 1]).data.toList = 15 := by decide
theorem ex_c4 : cleanZ (ByteArray.mk #[240]) 4 = true := by decide
theorem ex_c3 : cleanZ (ByteArray.mk #[240]) 3 = false := by decide

end Go.Proofs.Ythfdcmijciclkaa.Bits
