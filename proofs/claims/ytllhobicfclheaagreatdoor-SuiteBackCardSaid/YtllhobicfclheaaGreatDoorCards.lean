/-
  DERIVED. GIVEN WITH THE SEED: THE CARDS: each row of YtllhobicfclheaaGreatDoorRows.lean that lists a variable, with what it lists TIED to the program's text (the seventh form; the later family's looks); each row that meets fmt, with fmt's text TOLD by the authors' own Lean function (tested against real Go, not proved from fmt's source: count such statements apart). THE CARD IS WHAT COUNTS. Prove the row's statement (the work); the ties are given (YtllhobicfclheaaGreatDoorTie.lean); close each card by the builder's one call (the guide's Derived/Test/ToyasCard.lean, 'card_holds'). Laid BY PROGRAM, IN A SANDBOX (cutbox-door.mjs). By AI agents, Wed Nov 11 2026. No macro, syntax, notation, axiom, sorry.
-/
import Derived.Test.YtllhobicfclheaaGreatDoorRows
import GoSem.ClaimSeven
namespace Go.Proofs.YtllhobicfclheaaGreatDoor
namespace Rows

/-- THE TIED CARD OF 'roadbooklaw26.SuiteTells'. -/
def suiteTellsCard : Claim7 := { stood := { row := suiteTellsRow, standIns := [], harness := (true, "7643cef43b44654837f681d0894ca3a381e72fa7e12c393601c1bf82304e94c6"), looks := false }, kinds := [], alts := [], laidByText := true, laidKinds := [.data, .data, .data], laidTests := true, laidLooks := .later }
def SuiteTellsCardSaid : Prop := Claim7.holds Tryz.pinned (.plain (OpenSpec.ofChange suiteTellsSpec)) suiteTellsCard

/-- THE TIED CARD OF 'roadbooklaw26.SuiteBack'. -/
def suiteBackCard : Claim7 := { stood := { row := suiteBackRow, standIns := [], harness := (true, "7643cef43b44654837f681d0894ca3a381e72fa7e12c393601c1bf82304e94c6"), looks := false }, kinds := [], alts := [], laidByText := true, laidKinds := [.data, .data, .data], laidTests := true, laidLooks := .later }
def SuiteBackCardSaid : Prop := Claim7.holds Tryz.pinned (.plain (OpenSpec.ofChange suiteBackSpec)) suiteBackCard

/-- THE TIED CARD OF 'roadbooklaw26.SuiteAgain'. -/
def suiteAgainCard : Claim7 := { stood := { row := suiteAgainRow, standIns := [], harness := (true, "7643cef43b44654837f681d0894ca3a381e72fa7e12c393601c1bf82304e94c6"), looks := false }, kinds := [], alts := [], laidByText := true, laidKinds := [.data, .data, .data], laidTests := true, laidLooks := .later }
def SuiteAgainCardSaid : Prop := Claim7.holds Tryz.pinned (.plain (OpenSpec.ofChange suiteAgainSpec)) suiteAgainCard

/-- THE TIED CARD OF 'roadbooklaw26.SuiteOne'. -/
def suiteOneCard : Claim7 := { stood := { row := suiteOneRow, standIns := [], harness := (true, "7643cef43b44654837f681d0894ca3a381e72fa7e12c393601c1bf82304e94c6"), looks := false }, kinds := [], alts := [], laidByText := true, laidKinds := [.data, .data, .data], laidTests := true, laidLooks := .later }
def SuiteOneCardSaid : Prop := Claim7.holds Tryz.pinned (.plain (OpenSpec.ofChange suiteOneSpec)) suiteOneCard

/-- THE SECOND FORM's CARD OF 'roadbooklaw26.SuiteTells'. -/
def suiteTellsUptoCard : Claim7 := { stood := { row := suiteTellsUptoRow, standIns := [], harness := (true, "7643cef43b44654837f681d0894ca3a381e72fa7e12c393601c1bf82304e94c6"), looks := false }, kinds := [], alts := [], laidByText := true, laidKinds := [.data, .data, .data], laidTests := true, laidLooks := .later }
def SuiteTellsUptoCardSaid : Prop := Claim7.holds Tryz.pinned (.plain (OpenSpec.upto suiteTellsSpec)) suiteTellsUptoCard

/-- THE SECOND FORM's CARD OF 'roadbooklaw26.SuiteBack'. -/
def suiteBackUptoCard : Claim7 := { stood := { row := suiteBackUptoRow, standIns := [], harness := (true, "7643cef43b44654837f681d0894ca3a381e72fa7e12c393601c1bf82304e94c6"), looks := false }, kinds := [], alts := [], laidByText := true, laidKinds := [.data, .data, .data], laidTests := true, laidLooks := .later }
def SuiteBackUptoCardSaid : Prop := Claim7.holds Tryz.pinned (.plain (OpenSpec.upto suiteBackSpec)) suiteBackUptoCard

/-- THE SECOND FORM's CARD OF 'roadbooklaw26.SuiteAgain'. -/
def suiteAgainUptoCard : Claim7 := { stood := { row := suiteAgainUptoRow, standIns := [], harness := (true, "7643cef43b44654837f681d0894ca3a381e72fa7e12c393601c1bf82304e94c6"), looks := false }, kinds := [], alts := [], laidByText := true, laidKinds := [.data, .data, .data], laidTests := true, laidLooks := .later }
def SuiteAgainUptoCardSaid : Prop := Claim7.holds Tryz.pinned (.plain (OpenSpec.upto suiteAgainSpec)) suiteAgainUptoCard

/-- THE SECOND FORM's CARD OF 'roadbooklaw26.SuiteOne'. -/
def suiteOneUptoCard : Claim7 := { stood := { row := suiteOneUptoRow, standIns := [], harness := (true, "7643cef43b44654837f681d0894ca3a381e72fa7e12c393601c1bf82304e94c6"), looks := false }, kinds := [], alts := [], laidByText := true, laidKinds := [.data, .data, .data], laidTests := true, laidLooks := .later }
def SuiteOneUptoCardSaid : Prop := Claim7.holds Tryz.pinned (.plain (OpenSpec.upto suiteOneSpec)) suiteOneUptoCard
end Rows
end Go.Proofs.YtllhobicfclheaaGreatDoor
