/-
  DERIVED. GIVEN WITH THE SEED: THE CARDS: each row of YtbfjebfodaoikaaGreatDoorRows.lean that lists a variable, with what it lists TIED to the program's text (the seventh form; the later family's looks); each row that meets fmt, with fmt's text TOLD by the authors' own Lean function (tested against real Go, not proved from fmt's source: count such statements apart). THE CARD IS WHAT COUNTS. Prove the row's statement (the work); the ties are given (YtbfjebfodaoikaaGreatDoorTie.lean); close each card by the builder's one call (the guide's Derived/Test/ToyasCard.lean, 'card_holds'). Laid BY PROGRAM, IN A SANDBOX (cutbox-door.mjs). By AI agents, Wed Nov 11 2026. No macro, syntax, notation, axiom, sorry.
-/
import Derived.Test.YtbfjebfodaoikaaGreatDoorRows
import GoSem.ClaimSeven
namespace Go.Proofs.YtbfjebfodaoikaaGreatDoor
namespace Rows

/-- THE TIED CARD OF 'roadbooklaw24.LeanTells'. -/
def leanTellsCard : Claim7 := { stood := { row := leanTellsRow, standIns := [], harness := (true, "fbdaea1659e2ef38ad8646bfc2ef3f7baced338ac9c4db63357ffb42048493ed"), looks := false }, kinds := [], alts := [], laidByText := true, laidKinds := [.data, .data], laidTests := true, laidLooks := .later }
def LeanTellsCardSaid : Prop := Claim7.holds Tryz.pinned (.plain (OpenSpec.ofChange leanTellsSpec)) leanTellsCard

/-- THE SECOND FORM's CARD OF 'roadbooklaw24.LeanTells'. -/
def leanTellsUptoCard : Claim7 := { stood := { row := leanTellsUptoRow, standIns := [], harness := (true, "fbdaea1659e2ef38ad8646bfc2ef3f7baced338ac9c4db63357ffb42048493ed"), looks := false }, kinds := [], alts := [], laidByText := true, laidKinds := [.data, .data], laidTests := true, laidLooks := .later }
def LeanTellsUptoCardSaid : Prop := Claim7.holds Tryz.pinned (.plain (OpenSpec.upto leanTellsSpec)) leanTellsUptoCard
end Rows
end Go.Proofs.YtbfjebfodaoikaaGreatDoor
