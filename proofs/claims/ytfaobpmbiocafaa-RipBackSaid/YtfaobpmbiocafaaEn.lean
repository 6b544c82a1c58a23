/-
  What the entry's Get answers, of any text; a struct laid in a new block. Condition: texts no longer than a text may be.
-/
import Derived.Test.YtfaobpmbiocafaaRf
namespace Go.Proofs.Ytfaobpmbiocafaa.Ent
open Go.ChangeShapes Go.WideShapes Go.ChangeAt Go.RowKit
open Go.Proofs.Ytfaobpmbiocafaa.Cur
open Go.Proofs.Ytfaobpmbiocafaa.Oct
open Go.Proofs.Ytfaobpmbiocafaa.Bk
set_option linter.unusedVariables false
set_option maxRecDepth 100000

/-- A new block, of a struct's zero, in which a struct is laid at once. -/
theorem laid_new (t : TypeId) (w : World) (z cs : Array Value) : Bk t ((w.alloc (.cells z t)).setRow w.heap.size cs) w.heap.size cs := (Bk.new t w z).put cs
theorem laid_old {t : TypeId} {w : World} {b : Nat} {cs : Array Value} (h : Bk t w b cs) (t' : TypeId) (z cs' : Array Value) : Bk t ((w.alloc (.cells z t')).setRow w.heap.size cs') b cs := (h.old _).row (by have := h.lt; omega) _
theorem laid_below {a w : World} {B : Nat} (h : Below B a w) (hB : B ≤ w.heap.size) (t : TypeId) (z cs : Array Value) : Below B a ((w.alloc (.cells z t)).setRow w.heap.size cs) := below_setRow (h.alloc hB _) hB cs

/-- What Get answers. -/
def getE (s : ByteArray) : E := if s.size = 20 then E.of s else E.zero
def getB (s : ByteArray) : Bool := decide (s.size = 20)
theorem get_any (s : ByteArray) (w : World) (hs : s.size ≤ maxLen) :
    Calls Try.prog 44 #[.string s] w fun e w' => e = .returned (.tuple #[.agg (getE s).cells, .bool (getB s)]) ∧ Below w.heap.size w w' := by
  by_cases h : s.size = 20
  · have := get_yes s w h
    unfold getE getB
    rw [if_pos h, decide_eq_true h]; exact this
  · have := get_no s w hs h
    unfold getE getB
    rw [if_neg h, decide_eq_false h]; exact this
theorem rget_any (s : ByteArray) (w : World) (hs : s.size ≤ maxLen) :
    Calls Try.prog 23 #[.string s] w fun e w' => e = .returned (.tuple #[.agg (getE s).cells, .bool (getB s)]) ∧ Below w.heap.size w w' := by
  by_cases h : s.size = 20
  · have := rget_yes s w h
    unfold getE getB
    rw [if_pos h, decide_eq_true h]; exact this
  · have := rget_no s w hs h
    unfold getE getB
    rw [if_neg h, decide_eq_false h]; exact this
end Go.Proofs.Ytfaobpmbiocafaa.Ent
