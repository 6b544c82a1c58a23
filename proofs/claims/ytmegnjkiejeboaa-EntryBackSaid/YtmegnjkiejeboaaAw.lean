/-
  The document's example for entries. No conditions.
-/
import Derived.Test.YtmegnjkiejeboaaRf
namespace Go.Proofs.Ytmegnjkiejeboaa.Ent
open Go.ChangeShapes Go.WideShapes Go.ChangeAt Go.RowKit
open Go.Proofs.Ytmegnjkiejeboaa.Cur
open Go.Proofs.Ytmegnjkiejeboaa.Oct
open Go.Proofs.Ytmegnjkiejeboaa.Bk
set_option linter.unusedVariables false

def exE : E := ⟨2, 0, ⟨#[0, 0, 0, 0]⟩, ⟨#[0, 0, 0, 0]⟩, ⟨#[0, 0, 0, 0]⟩, 1⟩
def exS : ByteArray := ⟨#[0, 2, 0, 0, 0, 0, 0, 0, 0, 0, 0, 0, 0, 0, 0, 0, 0, 0, 0, 1]⟩
theorem ex_put : putE exE = exS := by decide +kernel
theorem ex_ok : okE exE = true := by decide +kernel
theorem ex_size : exS.size = 20 := rfl
theorem ex_cut : exS.extract 2 19 = ⟨(List.replicate 17 (0 : UInt8)).toArray⟩ := by decide +kernel
theorem ex_1 : ∀ h : 1 < exS.size, (exS[1]'h).toNat = 2 := fun h => rfl
theorem ex_19 : ∀ h : 19 < exS.size, (exS[19]'h).toNat = 1 := fun h => rfl

set_option maxHeartbeats 1600000 in
theorem awake_any (w : World) :
    Calls Try.prog 5 #[] w fun e w' => e = .returned (.bool true) ∧ Below w.heap.size w w' := by
  obtain ⟨i0, hi, hz0, hz1, hz2⟩ := info_parts info5
  go_enter Try.func5, Try.ntmps5
  go_wp2_with (first | (refine wpList_builtK rfl 23 _ rfl exE.cells (by kernel_rfl) ?_))
  refine (put_any exE _ ⟨by unfold maxLen; decide, by unfold maxLen; decide, by unfold maxLen; decide⟩).mono ?_
  rintro e w1 ⟨rfl, hb1⟩
  rw [ex_put, ex_ok]
  go_upto_region 2 with fail
  have h1 := ex_1
  have h2 := ex_19
  have h3 := sl_m exS 2 19 2 19 rfl rfl (by decide) (by decide)
  rw [ex_cut] at h3
  have hsz := ex_size
  generalize exS = t at *
  obtain ⟨w2, hrun, hown, hgrow⟩ := run_make_full (P := Try.prog) w1.drew w1.heap.size 30 5 i0 (.int .u8 0) 1 Try.underlying30 hi hz0 hz1 .i64 .i64 17 (by rw [hz2]; omega) (by unfold maxLen; omega) (Nat.le_refl _)
  have hc := conv_row w2 w1.heap.size 17 w1.heap.size (List.replicate 17 0) 17 (by simp) (by
    have e : cellsL (List.replicate 17 (0 : UInt8)) = (madeCells #[Value.int .u8 0] 17).toList := by
      rw [toList_madeCells_one]; simp [cellsL]
    rw [e]; exact hown)
  have HB : Hid (Below w.heap.size w w2) := Lib.hid (hb1.trans (((Below.refl w1.heap.size w1).drew.grown hgrow (Nat.le_refl _) (fun k hk => by cases hk)).mono hb1.size))
  clear hown hgrow hi hz0 hz1 hz2 hb1
  have hrun2 : Sem.run Try.prog (Instr.makeSlice 30 (.int .i64 17) (.int .i64 17)) w1.drew = .ok (.slice (some ⟨w1.heap.size, 0, none⟩) 17 17) w2 := hrun
  clear hrun
  go_region_with fail
  all_goals
    go_wp2
    go_ret
    exact ⟨rfl, HB.out⟩
end Go.Proofs.Ytmegnjkiejeboaa.Ent
