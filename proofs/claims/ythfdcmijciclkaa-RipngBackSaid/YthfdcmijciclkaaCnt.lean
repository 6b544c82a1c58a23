/-
  The bytes of Subs, and whether they may be: the program's answers and the document's. Conditions: lists of at most 2^20 elements, of at most 2^40 bytes together.
-/
import Derived.Test.YthfdcmijciclkaaOr
namespace Go.Proofs.Ythfdcmijciclkaa.Cnt
open Go.ChangeShapes Go.WideShapes Go.ChangeAt Go.RowKit
open Go.Proofs.Ythfdcmijciclkaa.Ms
open Go.Proofs.Ythfdcmijciclkaa.Box
open Go.Proofs.Ythfdcmijciclkaa.Same
set_option linter.unusedVariables false
set_option maxRecDepth 100000

/-- The bytes of Subs. -/
def bytesN (l : List El) : Nat := (l.map fun x => 2 + x.1.size).sum
theorem bytes_take (l : List El) (k : Nat) (h : k < l.length) : bytesN (l.take (k + 1)) = bytesN (l.take k) + (2 + l[k].1.size) := by
  unfold bytesN
  rw [List.take_succ_eq_append_getElem h, List.map_append, List.sum_append]
  simp only [List.map_cons, List.map_nil, List.sum_cons, List.sum_nil, Nat.add_zero]
theorem bytes_le (l : List El) (k : Nat) : bytesN (l.take k) ≤ bytesN l := by
  conv => rhs; rw [← List.take_append_drop k l]
  unfold bytesN
  rw [List.map_append, List.sum_append]
  omega
theorem int_eq {k : IntKind} {a b : Int} (h : a = b) : Ending.returned (.int k a) = .returned (.int k b) := by rw [h]

/-- May the Subs be? -/
def mayB (l : List El) (lo hi : Int) : Bool := l.all fun x => decide (lo ≤ x.2) && (decide (x.2 ≤ hi) && decide (x.1.size ≤ 255))
theorem may_take (l : List El) (lo hi : Int) (k : Nat) (h : k < l.length) : mayB (l.take (k + 1)) lo hi = (mayB (l.take k) lo hi && (decide (lo ≤ l[k].2) && (decide (l[k].2 ≤ hi) && decide (l[k].1.size ≤ 255)))) := by
  unfold mayB
  rw [List.take_succ_eq_append_getElem h, List.all_append]
  simp
theorem may_not (l : List El) (lo hi : Int) (k : Nat) (h : k < l.length) (hn : (decide (lo ≤ l[k].2) && (decide (l[k].2 ≤ hi) && decide (l[k].1.size ≤ 255))) = false) : mayB l lo hi = false := by
  unfold mayB
  rw [List.all_eq_false]
  exact ⟨l[k], List.getElem_mem h, by rw [hn]; simp⟩

end Go.Proofs.Ythfdcmijciclkaa.Cnt
