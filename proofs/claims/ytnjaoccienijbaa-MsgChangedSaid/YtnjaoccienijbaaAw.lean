/-
  The chapter's example: it holds.
-/
import Derived.Test.YtnjaoccienijbaaBare
import Derived.Test.YtnjaoccienijbaaCnt
namespace Go.Proofs.Ytnjaoccienijbaa.Aw
open Go.ChangeShapes Go.WideShapes Go.ChangeAt Go.RowKit
open Go.Proofs.Ytnjaoccienijbaa.Ms
open Go.Proofs.Ytnjaoccienijbaa.Box
open Go.Proofs.Ytnjaoccienijbaa.Or
open Go.Proofs.Ytnjaoccienijbaa.SameP
open Go.Proofs.Ytnjaoccienijbaa.Own
open Go.Proofs.Ytnjaoccienijbaa.Bare
open Go.Proofs.Ytnjaoccienijbaa.Cnt
set_option linter.unusedVariables false

theorem ex_built {P : Program} {o : Oper} {ρ : Operand → Value} {t : TypeId} {parts : Array (Nat × Operand)} {cells : Array Value} {w : World} (ho : o.op = .build t parts) (hc : P.built t (parts.map fun (i, x) => (i, ρ x)).toList = some cells) :
    (execOp ρ o).run P w = .ok (.value (.agg cells)) w := by
  unfold execOp
  simp only [ho, Sem.run_bind, run_build w t _ cells hc, Result.andThen_ok, Sem.run_pure]

def m1 : M := { M.zero with kind := 8, nonce := 7 }
def m2 : M := { M.zero with kind := 8, seq := 1 }
def m3 : M := { M.zero with kind := 3 }
theorem bare1 : bareN m1 = true := by simp [bareN, isKind, ownM, fieldsOf, k8, m1, M.zero, M.same, M.flatE]
theorem bare2 : bareN m2 = false := by simp [bareN, isKind, ownM, fieldsOf, k8, m2, M.zero, M.same, M.flatE]
theorem same3 : M.same m3 m3 = true := by simp [M.same, M.flatE]
theorem zin (w : World) (m : M) (h1 : m.ll = []) (h2 : m.sl = []) : m.In w := ⟨by rw [h1]; exact DRow.nil _ _, by rw [h2]; exact SRow.nil _ _, by rw [h1]; exact Nat.zero_le _, by rw [h2]; exact Nat.zero_le _⟩
def abc : List El := [(⟨#[97, 98, 99]⟩, 2)]

set_option maxHeartbeats 3200000 in
set_option maxRecDepth 100000 in
theorem awake_any (w : World) : Calls Try.prog 7 #[] w fun e w' => e = .returned (.bool true) ∧ Below w.heap.size w w' := by
  have P1 := Lib.hid (fun w => bare_any m1 w (zin w m1 rfl rfl))
  have P2 := Lib.hid (fun w => bare_any m2 w (zin w m2 rfl rfl))
  have P3 := Lib.hid (fun w => same_any m3 m3 w (zin w m3 rfl rfl) (zin w m3 rfl rfl))
  rw [bare1] at P1
  rw [bare2] at P2
  rw [same3] at P3
  go_enter Try.func7, Try.ntmps7
  go_wp2_with (first | (refine st_yes (v := .agg (M.cells m1)) (by rfl) rfl (ex_built (t := 25) rfl (by kernel_rfl)) ?_))
  refine (P1.out _).mono ?_
  rintro e w1 ⟨rfl, hb1⟩
  go_wp2_with (first | (refine st_yes (v := .agg (M.cells m2)) (by rfl) rfl (ex_built (t := 25) rfl (by kernel_rfl)) ?_))
  refine (P2.out _).mono ?_
  rintro e w2 ⟨rfl, hb2⟩
  have hb := bcall hb1 hb2
  clear hb1 hb2
  go_wp2_with (first | (refine st_yes (v := .agg (M.cells m3)) (by rfl) rfl (ex_built (t := 25) rfl (by kernel_rfl)) ?_))
  refine (P3.out _).mono ?_
  rintro e w3 ⟨rfl, hb3⟩
  have hb := bcall hb hb3
  clear hb3
  go_wp2_with fail
  have hrow : SRow (w3.alloc (.cells #[.int .i64 2, .string ⟨#[97, 98, 99]⟩] 39)) (some ⟨w3.heap.size, 0, none⟩) abc := by
    intro i hi
    obtain rfl : i = 0 := by simp [abc] at hi; omega
    refine ⟨_, rfl, by rw [Same.alloc_size]; show w3.heap.size < _; omega, ?_, ?_⟩ <;> simp [abc, go_sem]
  refine (bytes_any (some ⟨w3.heap.size, 0, none⟩) 1 abc _ hrow (by decide) (by decide)).mono ?_
  rintro e w4 ⟨rfl, hb4⟩
  have hb := bcall (balloc hb _) hb4
  clear hb4 hrow
  rw [show bytesN abc = 5 from rfl]
  go_wp2
  go_ret
  exact ⟨rfl, hb⟩
end Go.Proofs.Ytnjaoccienijbaa.Aw
