/-
  MsgChanged, what it rests on: a message with one field changed is another one.
-/
import Derived.Test.YtnjaoccienijbaaOpen
import Derived.Test.YtnjaoccienijbaaAw
import Derived.Deep.WholeRow
import Derived.WalkKit
import Derived.ProofKit
import Derived.OpenShut
import Derived.ShutString
namespace Go.Proofs.Ytnjaoccienijbaa.Chg
open Go.ChangeShapes Go.WideShapes Go.ChangeAt Go.RowKit
open Go.Proofs.Ytnjaoccienijbaa.Ms
open Go.Proofs.Ytnjaoccienijbaa.Box
open Go.Proofs.Ytnjaoccienijbaa.Same
open Go.Proofs.Ytnjaoccienijbaa.SameP
open Go.Proofs.Ytnjaoccienijbaa.Hs
open Go.Proofs.Ytnjaoccienijbaa.Or
open Go.Proofs.Ytnjaoccienijbaa.Bare
open Go.Proofs.Ytnjaoccienijbaa.Few
open Go.Proofs.Ytnjaoccienijbaa.All
open Go.Proofs.Ytnjaoccienijbaa.Aw
open Go.Proofs.Ytnjaoccienijbaa.Open
open Go.Proofs.Ytnjaoccienijbaa.Cnt
set_option linter.unusedVariables false

theorem small_le {n : Nat} {l : List El} (h : small n l = true) : ∀ x ∈ l, x.1.size ≤ n := by
  intro x hx
  have := List.all_eq_true.1 h x hx
  simpa using this
theorem bytes_small {n : Nat} : ∀ {l : List El}, small n l = true → bytesN l ≤ (n + 2) * l.length
  | [], _ => by simp [bytesN]
  | x :: l, h => by
    have h1 := small_le h x (by simp)
    have h2 : small n l = true := by
      unfold small at h ⊢
      simp only [List.all_cons, Bool.and_eq_true] at h
      exact h.2
    have ih := bytes_small h2
    have e : bytesN (x :: l) = (2 + x.1.size) + bytesN l := by simp [bytesN]
    rw [e, List.length_cons, Nat.mul_succ]
    omega
theorem few_facts {m : M} (h : fewB m = true) : m.ll.length ≤ 300 ∧ m.sl.length ≤ 60 ∧ small 300 m.sl = true := by
  unfold fewB at h
  simp only [Bool.and_eq_true, decide_eq_true_eq] at h
  exact ⟨h.1.1.1.1.1.1.1, h.1.1.1.1.1.1.2, h.2⟩

/-- a number with its last bit turned -/
theorem flip_ne (a : Int) : ¬ a = bits .xor .i64 a 1 := by
  intro h
  have e : bits .xor .i64 a 1 = IntKind.i64.wrap (BitVec.ofInt 64 a ^^^ BitVec.ofInt 64 1).toNat := rfl
  rw [e] at h
  have h2 : BitVec.ofInt 64 (IntKind.i64.wrap ((BitVec.ofInt 64 a ^^^ BitVec.ofInt 64 1).toNat : Int)) = BitVec.ofInt 64 a ^^^ BitVec.ofInt 64 1 := by
    have hw : ∀ x : Nat, BitVec.ofInt 64 (IntKind.i64.wrap (x : Int)) = BitVec.ofInt 64 (x : Int) := by
      intro x
      apply BitVec.eq_of_toInt_eq
      rw [BitVec.toInt_ofInt, BitVec.toInt_ofInt]
      simp only [IntKind.wrap, IntKind.signed, IntKind.bits]
      simp [Int.bmod]
      split <;> omega
    rw [hw]
    generalize BitVec.ofInt 64 a ^^^ BitVec.ofInt 64 1 = r
    rw [BitVec.ofInt_natCast, BitVec.ofNat_toNat, BitVec.setWidth_eq]
  rw [← h] at h2
  have h3 : BitVec.ofInt 64 a ^^^ BitVec.ofInt 64 a = BitVec.ofInt 64 a ^^^ (BitVec.ofInt 64 a ^^^ BitVec.ofInt 64 1) := by rw [← h2]
  rw [← BitVec.xor_assoc, BitVec.xor_self, BitVec.zero_xor] at h3
  exact absurd h3 (by decide)
theorem more_ne (s : ByteArray) : ¬ s.toList = (s ++ ⟨#[120]⟩ : ByteArray).toList := by
  intro h
  rw [ByteArray.toList_eq, ByteArray.toList_eq] at h
  have := congrArg List.length h
  simp at this
theorem in_of {m : M} {w W : World} (h : DRow w m.la m.ll ∧ SRow w m.sa m.sl ∧ fewB m = true) (hb : Below w.heap.size w W) : m.In W := ⟨h.1.below hb, h.2.1.below hb, by have := few_facts h.2.2; omega, by have := few_facts h.2.2; omega⟩

end Go.Proofs.Ytnjaoccienijbaa.Chg
