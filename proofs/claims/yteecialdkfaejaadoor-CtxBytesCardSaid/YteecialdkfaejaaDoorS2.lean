/-
  Whether Subs may be: the program's Right and the document's; whether they are few, and the same, as the statements ask. Condition: lists of at most 2^20 elements.
-/
import Derived.Test.YteecialdkfaejaaDoorS1
import Derived.Test.YteecialdkfaejaaDoorSm
namespace Go.Proofs.YteecialdkfaejaaDoor.S2
open Go.ChangeShapes Go.WideShapes Go.ChangeAt Go.RowKit
open Go.Proofs.YteecialdkfaejaaDoor.Ms
open Go.Proofs.YteecialdkfaejaaDoor.Cnt
open Go.Proofs.YteecialdkfaejaaDoor.S1
open Go.Proofs.YteecialdkfaejaaDoor.Sm
set_option linter.unusedVariables false
set_option maxRecDepth 100000
set_option maxRecDepth 100000

set_option maxHeartbeats 1600000 in
theorem right_any (a : Option Addr) (c : Nat) (l : List El) (w : World) (hl : SRow w a l) (ln : l.length ≤ 1048576) (lb : ∀ x ∈ l, x.1.size ≤ 1099511627776) :
    Calls Tryd.prog 22 #[.slice a l.length c] w fun e w' => e = .returned (.bool (okS l)) ∧ Below w.heap.size w w' := by
  have P := Lib.hid (may_any a c l 2 127 w hl ln lb)
  clear lb
  cases hm : mayB l 2 127
  · have HK : Hid (okS l = false) := Lib.hid (by unfold okS; rw [hm]; rfl)
    rw [hm] at P
    clear hm hl ln
    go_enter Tryd.func22, Tryd.ntmps22
    go_wp2_with fail
    refine P.out.mono ?_
    rintro e w1 ⟨rfl, hb⟩
    go_wp2
    go_ret
    exact ⟨bool_eq HK.out.symm, hb⟩
  · have HB := bytesN_most hm
    have PB := Lib.hid (fun W (hb : Below w.heap.size w W) => bytes_any a c l W (hl.below hb) ln (by omega))
    have hb1 : ((bytesN l : Nat) : Int) ≤ 269484032 := by omega
    have hb0 : 0 ≤ ((bytesN l : Nat) : Int) := Int.natCast_nonneg _
    have HK : Hid (okS l = decide (((bytesN l : Nat) : Int) ≤ 200)) := Lib.hid (by unfold okS; rw [hm, Bool.true_and]; simp; omega)
    rw [hm] at P
    clear hm hl ln HB
    generalize ((bytesN l : Nat) : Int) = n at *
    go_enter Tryd.func22, Tryd.ntmps22
    go_wp2_with fail
    refine P.out.mono ?_
    rintro e w1 ⟨rfl, hb⟩
    have HB := Lib.hid hb
    clear hb P
    go_wp2_with fail
    refine (PB.out _ HB.out).mono ?_
    rintro e w2 ⟨rfl, hb⟩
    have HB := Lib.hid (bcall HB.out hb)
    clear hb PB
    go_wp2
    go_ret
    exact ⟨bool_eq HK.out.symm, HB.out⟩
end Go.Proofs.YteecialdkfaejaaDoor.S2
