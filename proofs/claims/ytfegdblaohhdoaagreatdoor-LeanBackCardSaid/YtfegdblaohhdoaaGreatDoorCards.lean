/-
  DERIVED. GIVEN WITH THE SEED: THE CARDS: each row of YtfegdblaohhdoaaGreatDoorRows.lean that lists a variable, with what it lists TIED to the program's text (the seventh form; the later family's looks); each row that meets fmt, with fmt's text TOLD by the authors' own Lean function (tested against real Go, not proved from fmt's source: count such statements apart). THE CARD IS WHAT COUNTS. Prove the row's statement (the work); the ties are given (YtfegdblaohhdoaaGreatDoorTie.lean); close each card by the builder's one call (the guide's Derived/Test/ToyasCard.lean, 'card_holds'). Laid BY PROGRAM, IN A SANDBOX (cutbox-door.mjs). By AI agents, Wed Nov 11 2026. No macro, syntax, notation, axiom, sorry.
-/
import Derived.Test.YtfegdblaohhdoaaGreatDoorRows
import GoSem.ClaimSeven
namespace Go.Proofs.YtfegdblaohhdoaaGreatDoor
namespace Rows

/-- THE TIED CARD OF 'roadbooklaw24.LeanTells'. -/
def leanTellsCard : Claim7 := { stood := { row := leanTellsRow, standIns := [], harness := (true, "5b794ac89c2a0f7052b9c8de08db75ae0d26193089c4335f1250129f2a308d57"), looks := false }, kinds := [], alts := [], laidByText := true, laidKinds := [.data, .data], laidTests := true, laidLooks := .later }
def LeanTellsCardSaid : Prop := Claim7.holds Tryz.pinned (.plain (OpenSpec.ofChange leanTellsSpec)) leanTellsCard

/-- THE TIED CARD OF 'roadbooklaw24.LeanBack'. -/
def leanBackCard : Claim7 := { stood := { row := leanBackRow, standIns := [], harness := (true, "5b794ac89c2a0f7052b9c8de08db75ae0d26193089c4335f1250129f2a308d57"), looks := false }, kinds := [], alts := [], laidByText := true, laidKinds := [.data, .data], laidTests := true, laidLooks := .later }
def LeanBackCardSaid : Prop := Claim7.holds Tryz.pinned (.plain (OpenSpec.ofChange leanBackSpec)) leanBackCard

/-- THE TIED CARD OF 'roadbooklaw24.LeanPlain'. -/
def leanPlainCard : Claim7 := { stood := { row := leanPlainRow, standIns := [], harness := (true, "5b794ac89c2a0f7052b9c8de08db75ae0d26193089c4335f1250129f2a308d57"), looks := false }, kinds := [], alts := [], laidByText := true, laidKinds := [.data, .data], laidTests := true, laidLooks := .later }
def LeanPlainCardSaid : Prop := Claim7.holds Tryz.pinned (.plain (OpenSpec.ofChange leanPlainSpec)) leanPlainCard

/-- THE SECOND FORM's CARD OF 'roadbooklaw24.LeanTells'. -/
def leanTellsUptoCard : Claim7 := { stood := { row := leanTellsUptoRow, standIns := [], harness := (true, "5b794ac89c2a0f7052b9c8de08db75ae0d26193089c4335f1250129f2a308d57"), looks := false }, kinds := [], alts := [], laidByText := true, laidKinds := [.data, .data], laidTests := true, laidLooks := .later }
def LeanTellsUptoCardSaid : Prop := Claim7.holds Tryz.pinned (.plain (OpenSpec.upto leanTellsSpec)) leanTellsUptoCard

/-- THE SECOND FORM's CARD OF 'roadbooklaw24.LeanBack'. -/
def leanBackUptoCard : Claim7 := { stood := { row := leanBackUptoRow, standIns := [], harness := (true, "5b794ac89c2a0f7052b9c8de08db75ae0d26193089c4335f1250129f2a308d57"), looks := false }, kinds := [], alts := [], laidByText := true, laidKinds := [.data, .data], laidTests := true, laidLooks := .later }
def LeanBackUptoCardSaid : Prop := Claim7.holds Tryz.pinned (.plain (OpenSpec.upto leanBackSpec)) leanBackUptoCard

/-- THE SECOND FORM's CARD OF 'roadbooklaw24.LeanPlain'. -/
def leanPlainUptoCard : Claim7 := { stood := { row := leanPlainUptoRow, standIns := [], harness := (true, "5b794ac89c2a0f7052b9c8de08db75ae0d26193089c4335f1250129f2a308d57"), looks := false }, kinds := [], alts := [], laidByText := true, laidKinds := [.data, .data], laidTests := true, laidLooks := .later }
def LeanPlainUptoCardSaid : Prop := Claim7.holds Tryz.pinned (.plain (OpenSpec.upto leanPlainSpec)) leanPlainUptoCard
end Rows
end Go.Proofs.YtfegdblaohhdoaaGreatDoor
