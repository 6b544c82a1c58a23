/-
  The document's example holds, in whatever world it is asked.
-/
import Derived.Test.YtgofhadpoelmiaaPut
namespace Go.Proofs.Ytgofhadpoelmiaa.Oct
open Go.ChangeShapes Go.WideShapes Go.ChangeAt Go.RowKit
set_option linter.unusedVariables false

theorem bcell {W w1 : World} (hb : Below W.heap.size W w1) : (∀ b o, b < W.heap.size → w1.cell? ⟨b, o, none⟩ = W.cell? ⟨b, o, none⟩) ∧ (∀ b o, b < W.heap.size → w1.frozen? ⟨b, o, none⟩ = W.frozen? ⟨b, o, none⟩) :=
  ⟨fun b o h => hb.cell (p := ⟨b, o, none⟩) h, fun b o h => hb.frozen (p := ⟨b, o, none⟩) h⟩

theorem bcall {w W w1 : World} (h : Below w.heap.size w W) (hb : Below W.heap.size W w1) : Below w.heap.size w w1 := h.trans (hb.mono h.size)

theorem ex_be : be 258 2 = [1, 2] := by decide
theorem ex_z1 : zeroB (ByteArray.mk #[0]).data.toList = true := rfl
theorem ex_z2 : zeroB (ByteArray.mk #[0, 1]).data.toList = false := rfl

set_option maxHeartbeats 800000 in
theorem awake_any (w : World) :
    Calls Try.prog 6 #[] w fun e w' => e = .returned (.bool true) ∧ Below w.heap.size w w' := by
  have hf : fitsB 256 1 = false := by decide
  have hp : 258 < pw 2 := by decide
  go_enter Try.func6, Try.ntmps6
  go_wp2_with fail
  refine (put_yes 258 2 _ (by decide) (by decide) hp).mono ?_
  rintro e w1 ⟨rfl, hb1⟩
  rw [ex_be]
  go_wp2_with fail
  refine (put_no 256 1 _ hf).mono ?_
  rintro e w2 ⟨rfl, hb2⟩
  go_wp2_with fail
  refine (zeros_mid 2 _ (by decide)).mono ?_
  rintro e w3 ⟨rfl, hb3⟩
  go_wp2_with fail
  refine (zero_any (ByteArray.mk #[0]) _ (by unfold maxLen; decide)).mono ?_
  rintro e w4 ⟨rfl, rfl⟩
  rw [ex_z1]
  go_wp2_with fail
  refine (zero_any (ByteArray.mk #[0, 1]) _ (by unfold maxLen; decide)).mono ?_
  rintro e w5 ⟨rfl, rfl⟩
  rw [ex_z2]
  go_wp2
  go_ret
  exact ⟨rfl, bcall (bcall hb1 hb2) hb3⟩
end Go.Proofs.Ytgofhadpoelmiaa.Oct
