/-
  The document's example holds, in whatever world it is asked.
-/
import Derived.Test.YtfpnmejbcjocoaaKeep
namespace Go.Proofs.Ytfpnmejbcjocoaa.Bits
open Go.ChangeShapes Go.WideShapes Go.ChangeAt Go.RowKit
set_option linter.unusedVariables false

theorem bcell {W w1 : World} (hb : Below W.heap.size W w1) : (∀ b o, b < W.heap.size → w1.cell? ⟨b, o, none⟩ = W.cell? ⟨b, o, none⟩) ∧ (∀ b o, b < W.heap.size → w1.frozen? ⟨b, o, none⟩ = W.frozen? ⟨b, o, none⟩) :=
  ⟨fun b o h => hb.cell (p := ⟨b, o, none⟩) h, fun b o h => hb.frozen (p := ⟨b, o, none⟩) h⟩

theorem bcall {w W w1 : World} (h : Below w.heap.size w W) (hb : Below W.heap.size W w1) : Below w.heap.size w w1 := h.trans (hb.mono h.size)

theorem ex_keep : keepL (ByteArray.mk #[255, 255]).data.toList (12 : Int).toNat = [255, 240] := by decide
theorem ex_b7 : bitZ (ByteArray.mk #[1]) 7 = true := by decide
theorem ex_b6 : bitZ (ByteArray.mk #[1]) 6 = false := by decide
theorem ex_alike : alikeN (ByteArray.mk #[255, 0]).data.toList (ByteArray.mk #[255, 1]).data.toList = 15 := by decide
theorem ex_c4 : cleanZ (ByteArray.mk #[240]) 4 = true := by decide
theorem ex_c3 : cleanZ (ByteArray.mk #[240]) 3 = false := by decide

set_option maxHeartbeats 800000 in
theorem awake_any (w : World) :
    Calls Try.prog 6 #[] w fun e w' => e = .returned (.bool true) ∧ Below w.heap.size w w' := by
  have P9 := Lib.hid (fun w => keep_any (ByteArray.mk #[255, 255]) 12 w (by decide))
  have P7 := Lib.hid (fun w => bit_any (ByteArray.mk #[1]) 7 w (by decide))
  have P6 := Lib.hid (fun w => bit_any (ByteArray.mk #[1]) 6 w (by decide))
  have PA := Lib.hid (fun w => alike_any (ByteArray.mk #[255, 0]) (ByteArray.mk #[255, 1]) w (by decide) (by decide))
  have P4 := Lib.hid (fun w => clean_any (ByteArray.mk #[240]) 4 w (by decide))
  have P3 := Lib.hid (fun w => clean_any (ByteArray.mk #[240]) 3 w (by decide))
  rw [ex_keep] at P9
  rw [ex_b7] at P7
  rw [ex_b6] at P6
  rw [ex_alike] at PA
  rw [ex_c4] at P4
  rw [ex_c3] at P3
  go_enter Try.func6, Try.ntmps6
  go_wp2_with fail
  refine (P9.out _).mono ?_
  rintro e w1 ⟨rfl, hb1⟩
  go_wp2_with fail
  refine (P7.out _).mono ?_
  rintro e w2 ⟨rfl, rfl⟩
  go_wp2_with fail
  refine (P6.out _).mono ?_
  rintro e w2 ⟨rfl, rfl⟩
  go_wp2_with fail
  refine (PA.out _).mono ?_
  rintro e w2 ⟨rfl, hb2⟩
  replace hb2 := bcall hb1 hb2
  clear hb1
  go_wp2_with fail
  refine (P4.out _).mono ?_
  rintro e w3 ⟨rfl, hb3⟩
  replace hb3 := bcall hb2 hb3
  clear hb2
  go_wp2_with fail
  refine (P3.out _).mono ?_
  rintro e w4 ⟨rfl, hb4⟩
  replace hb4 := bcall hb3 hb4
  clear hb3
  go_wp2
  go_ret
  exact ⟨rfl, hb4⟩
end Go.Proofs.Ytfpnmejbcjocoaa.Bits
