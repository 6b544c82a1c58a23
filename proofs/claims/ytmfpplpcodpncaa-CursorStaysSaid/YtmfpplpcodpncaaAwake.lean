/-
  The document's example holds, in whatever world it is asked.
-/
import Derived.Test.YtmfpplpcodpncaaNumC
namespace Go.Proofs.Ytmfpplpcodpncaa.Cur
open Go.ChangeShapes Go.WideShapes Go.ChangeAt Go.RowKit
set_option linter.unusedVariables false

/-- the example's bytes -/
def exS : ByteArray := { data := #[1, 2, 3] }
theorem exS_size : exS.size = 3 := rfl

theorem ex_258 : ((numL (List.take 2 exS.data.toList) : Nat) : Int) = 258 := rfl

set_option maxHeartbeats 800000 in
theorem awake_any (w : World) :
    Calls Try.prog 7 #[] w fun e w' => e = .returned (.bool true) ∧ Below w.heap.size w w' := by
  have hs : exS.size ≤ maxLen := by unfold maxLen; rw [exS_size]; decide
  have e258 := ex_258
  have ew : wrap64 ((3 : Int) - 2) = 1 := IntWalk.wrap64_in _ (by omega)
  go_enter Try.func7, Try.ntmps7
  go_wp2_with fail
  refine (new_any exS _ hs).mono ?_
  rintro e w1 ⟨rfl, hb1⟩
  go_wp2_with fail
  rw [exS_size]
  refine (num_yes exS 0 3 2 _ hs (by decide) (by decide) (by decide) (by decide) (by decide)).mono ?_
  rintro e w2 ⟨rfl, hb2⟩
  go_wp2_with fail
  refine (num_no exS 2 3 2 false _ hs (by decide) (by decide) (by decide) (by decide) (by decide)).mono ?_
  rintro e w3 ⟨rfl, hb3⟩
  have B0 : Box w3 w2.heap.size exS 2 3 false := box_below (box_new _ _ _ _ _) hb3
  have bel3 : Below w.heap.size w w3 := bcall (balloc (bcall (bcall (Below.refl _ _) hb1) hb2) _) hb3
  clear hb1 hb2 hb3
  generalize w2.heap.size = k2 at *
  obtain ⟨⟨c00, c01, c02, c03⟩, f0, l0⟩ := id B0
  go_wp2_with fail
  refine (left_ok _ _ _ _).mono ?_
  rintro e w4 ⟨rfl, hb4⟩
  have B1 : Box w4 w3.heap.size exS 2 3 true := box_below (box_new _ _ _ _ _) hb4
  have bel4 : Below w.heap.size w w4 := bcall (balloc bel3 _) hb4
  clear c00 c01 c02 c03 f0 l0 B0 bel3 hb4
  generalize w3.heap.size = k3 at *
  obtain ⟨⟨c00, c01, c02, c03⟩, f0, l0⟩ := B1
  go_wp2_with fail
  refine (left_bad _ _ _ _).mono ?_
  rintro e w5 ⟨rfl, hb5⟩
  go_wp2
  go_ret
  exact ⟨rfl, bcall bel4 hb5⟩
end Go.Proofs.Ytmfpplpcodpncaa.Cur
