/-
  The number that bytes make: both functions that reckon it, and the cursor's calls that take text.
-/
import Derived.Test.YthfdcmijciclkaaCur
import Derived.IntWalk
import Derived.LoopTactic
namespace Go.Proofs.Ythfdcmijciclkaa.Cur
open Go.ChangeShapes Go.WideShapes Go.ChangeAt Go.RowKit
set_option linter.unusedVariables false
set_option maxRecDepth 100000

def numL (l : List UInt8) : Nat := l.foldl (fun n c => n * 256 + c.toNat) 0

theorem numL_snoc (l : List UInt8) (c : UInt8) : numL (l ++ [c]) = numL l * 256 + c.toNat := by
  unfold numL; rw [List.foldl_append]; rfl

theorem numL_lt (l : List UInt8) : numL l < 256 ^ l.length := by
  suffices h : ∀ (m : Nat) (l : List UInt8), l.length = m → numL l < 256 ^ m from h _ l rfl
  intro m
  induction m with
  | zero => intro l h; have := List.length_eq_zero_iff.1 h; subst this; decide
  | succ m ih =>
    intro l h
    have hl : l ≠ [] := by intro e; subst e; simp at h
    have e := List.dropLast_concat_getLast hl
    rw [← e, numL_snoc]
    have := ih l.dropLast (by simp; omega)
    have hc := (l.getLast hl).toNat_lt
    rw [Nat.pow_succ]
    omega

theorem take_snoc (s : ByteArray) (k : Nat) (h : k < s.size) : s.data.toList.take (k + 1) = s.data.toList.take k ++ [s[k]] := by
  rw [List.take_succ_eq_append_getElem (by simpa using h)]; rfl

theorem num_le (s : ByteArray) (k : Nat) (h : k ≤ 7) (hk : k ≤ s.size) : numL (s.data.toList.take k) < 72057594037927936 := by
  have := numL_lt (s.data.toList.take k)
  refine Nat.lt_of_lt_of_le this ?_
  have e : (s.data.toList.take k).length ≤ 7 := by simp; omega
  exact Nat.le_trans (Nat.pow_le_pow_right (by decide) e) (by decide)

theorem int_eq {k : IntKind} {a b : Int} (h : a = b) : Ending.returned (.int k a) = .returned (.int k b) := by rw [h]

theorem wraps_i64 (n : Int) (h₀ : 0 ≤ n) (h₁ : n < 2 ^ 63) : IntKind.i64.wrap n = n := by rw [IntKind.wrap_i64]; omega

theorem or8 (x c : Nat) (hx : x < 281474976710656) (hc : c < 256) : bits BinOp.or IntKind.i64 (wrap64 ((x : Int) * 256)) (wrap64 (c : Int)) = ((x * 256 + c : Nat) : Int) := by
  rw [IntWalk.wrap64_in _ (by omega), IntWalk.wrap64_in _ (by omega)]
  rw [bits_join .i64 63 (by decide) wraps_i64 8 _ _ (by omega) (by omega) (by omega) (by omega) (by omega) (by omega)]
  omega

theorem num_lt6 (s : ByteArray) (k : Nat) (h : k ≤ 6) (hk : k ≤ s.size) : numL (s.data.toList.take k) < 281474976710656 := by
  have := numL_lt (s.data.toList.take k)
  refine Nat.lt_of_lt_of_le this ?_
  have e : (s.data.toList.take k).length ≤ 6 := by simp; omega
  exact Nat.le_trans (Nat.pow_le_pow_right (by decide) e) (by decide)

theorem round_eq (s : ByteArray) (k : Nat) (h : k ≤ 6) (hk : k < s.size) :
    bits BinOp.or IntKind.i64 (wrap64 ((numL (s.data.toList.take k) : Nat) * 256)) (wrap64 (s[k].toNat : Nat)) = ((numL (s.data.toList.take (k + 1)) : Nat) : Int) := by
  rw [take_snoc s k hk, numL_snoc]
  exact or8 _ _ (num_lt6 s k h (by omega)) s[k].toNat_lt

end Go.Proofs.Ythfdcmijciclkaa.Cur
