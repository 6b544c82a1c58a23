/-
  Contracts of the octet's functions and of the document's own: what each answers of any numbers and any text, and that nothing that was there is changed.
-/
import Derived.Test.YtgfjhemfhfdklaaRows
import Derived.WalkKit
import Derived.ProofKit
import Derived.OpenShut
import Derived.ShutString
import Derived.Below
import Derived.Lib.Hide
import Derived.WalkLawsBesides
import Derived.Outline
import Derived.RegionTactic
import Derived.Deep.RegionWith
import Derived.StillTailTactics
import Derived.Deep.RegionHeld3
import Derived.IntWalk
import Derived.LoopTactic
import Derived.Laws.IdiomStrings
namespace Go.Proofs.Ytgfjhemfhfdklaa.Oct
open Go.ChangeShapes Go.WideShapes Go.ChangeAt Go.RowKit
set_option linter.unusedVariables false
set_option maxRecDepth 100000

theorem bool_eq {a b : Bool} (h : a = b) : Ending.returned (.bool a) = .returned (.bool b) := by rw [h]

/-- the powers of 256 -/
def pw (k : Nat) : Nat := 256 ^ k
theorem pw_succ (k : Nat) : pw (k + 1) = pw k * 256 := by unfold pw; rw [Nat.pow_succ]
theorem pw_zero : pw 0 = 1 := rfl
theorem pw_pos (k : Nat) : 0 < pw k := by unfold pw; exact Nat.pow_pos (by decide)
theorem pw_le (k : Nat) (h : k ≤ 7) : pw k ≤ 72057594037927936 := by
  unfold pw; exact Nat.le_trans (Nat.pow_le_pow_right (by decide) h) (by decide)

/-- does n go into k bytes? -/
def fitsB (n k : Int) : Bool := decide (1 ≤ k) && decide (k ≤ 7) && decide (0 ≤ n) && decide (n < (pw k.toNat : Nat))

theorem fitsB_iff (n k : Int) : fitsB n k = true ↔ 1 ≤ k ∧ k ≤ 7 ∧ 0 ≤ n ∧ n < (pw k.toNat : Nat) := by
  unfold fitsB; simp [and_assoc]

/-- the bytes of n, the highest first -/
def be (n : Nat) : Nat → List UInt8
  | 0 => []
  | k + 1 => UInt8.ofNat (n / pw k) :: be n k

theorem be_length (n k : Nat) : (be n k).length = k := by
  induction k with
  | zero => rfl
  | succ k ih => simp [be, ih]

set_option maxHeartbeats 400000 in
theorem fits_any (n k : Int) (w : World) :
    Calls Try.prog 39 #[.int .i64 n, .int .i64 k] w fun e w' => e = .returned (.bool (fitsB n k)) ∧ w = w' := by
  by_cases h1 : k < 1
  · go_enter Try.func39, Try.ntmps39
    go_wp2
    go_ret
    exact ⟨bool_eq (by unfold fitsB; simp; omega), rfl⟩
  · by_cases h2 : 7 < k
    · go_enter Try.func39, Try.ntmps39
      go_wp2
      go_ret
      exact ⟨bool_eq (by unfold fitsB; simp; omega), rfl⟩
    · by_cases h3 : 0 ≤ n
      · have hk : k = 1 ∨ k = 2 ∨ k = 3 ∨ k = 4 ∨ k = 5 ∨ k = 6 ∨ k = 7 := by omega
        clear h1 h2
        rcases hk with rfl | rfl | rfl | rfl | rfl | rfl | rfl
        all_goals
          go_enter Try.func39, Try.ntmps39
          go_wp2
          go_ret
          exact ⟨bool_eq (by rw [Bool.eq_iff_iff, fitsB_iff]; simp [pw]; omega), rfl⟩
      · have hk : k = 1 ∨ k = 2 ∨ k = 3 ∨ k = 4 ∨ k = 5 ∨ k = 6 ∨ k = 7 := by omega
        go_enter Try.func39, Try.ntmps39
        go_wp2
        go_ret
        exact ⟨bool_eq (by unfold fitsB; simp; omega), rfl⟩

def zeroB (l : List UInt8) : Bool := l.all (· == 0)

theorem take_snoc (s : ByteArray) (k : Nat) (h : k < s.size) : s.data.toList.take (k + 1) = s.data.toList.take k ++ [s[k]] := by
  rw [List.take_succ_eq_append_getElem (by simpa using h)]; rfl

theorem zeroB_snoc (l : List UInt8) (c : UInt8) : zeroB (l ++ [c]) = (zeroB l && c == 0) := by
  unfold zeroB; simp [List.all_append]

theorem zeroB_not (s : ByteArray) (k : Nat) (h : k < s.size) (h0 : ¬ s[k].toNat = 0) : zeroB s.data.toList = false := by
  unfold zeroB
  rw [List.all_eq_false]
  refine ⟨s[k], ?_, ?_⟩
  · have : s[k] = s.data[k]'(by simpa using h) := rfl
    rw [this]; simp
  · intro e
    have : s[k] = 0 := by simpa using e
    rw [this] at h0
    exact h0 rfl

end Go.Proofs.Ytgfjhemfhfdklaa.Oct
