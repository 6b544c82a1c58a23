/-
  DERIVED. GIVEN WITH THE SEED: THE CARDS: each row of YtpkmpinbpfblfaaGreatDoorRows.lean that lists a variable, with what it lists TIED to the program's text (the seventh form; the later family's looks); each row that meets fmt, with fmt's text TOLD by the authors' own Lean function (tested against real Go, not proved from fmt's source: count such statements apart). THE CARD IS WHAT COUNTS. Prove the row's statement (the work); the ties are given (YtpkmpinbpfblfaaGreatDoorTie.lean); close each card by the builder's one call (the guide's Derived/Test/ToyasCard.lean, 'card_holds'). Laid BY PROGRAM, IN A SANDBOX (cutbox-door.mjs). By AI agents, Wed Nov 11 2026. No macro, syntax, notation, axiom, sorry.
-/
import Derived.Test.YtpkmpinbpfblfaaGreatDoorRows
import GoSem.ClaimSeven
namespace Go.Proofs.YtpkmpinbpfblfaaGreatDoor
namespace Rows

/-- THE TIED CARD OF 'roadbooklaw23.IntakeParses'. -/
def intakeParsesCard : Claim7 := { stood := { row := intakeParsesRow, standIns := [], harness := (true, "e5cd9faef6a086472a4b0dbc0a8aa72b2db11c0a4400fb3301add04257cff7bf"), looks := false }, kinds := [], alts := [], laidByText := true, laidKinds := [.data, .data, .data], laidTests := true, laidLooks := .later }
def IntakeParsesCardSaid : Prop := Claim7.holds Tryz.pinned (.plain (OpenSpec.ofChange intakeParsesSpec)) intakeParsesCard

/-- THE TIED CARD OF 'roadbooklaw23.IntakeFolds'. -/
def intakeFoldsCard : Claim7 := { stood := { row := intakeFoldsRow, standIns := [], harness := (true, "e5cd9faef6a086472a4b0dbc0a8aa72b2db11c0a4400fb3301add04257cff7bf"), looks := false }, kinds := [], alts := [], laidByText := true, laidKinds := [.data, .data, .data], laidTests := true, laidLooks := .later }
def IntakeFoldsCardSaid : Prop := Claim7.holds Tryz.pinned (.plain (OpenSpec.ofChange intakeFoldsSpec)) intakeFoldsCard

/-- THE SECOND FORM's CARD OF 'roadbooklaw23.IntakeParses'. -/
def intakeParsesUptoCard : Claim7 := { stood := { row := intakeParsesUptoRow, standIns := [], harness := (true, "e5cd9faef6a086472a4b0dbc0a8aa72b2db11c0a4400fb3301add04257cff7bf"), looks := false }, kinds := [], alts := [], laidByText := true, laidKinds := [.data, .data, .data], laidTests := true, laidLooks := .later }
def IntakeParsesUptoCardSaid : Prop := Claim7.holds Tryz.pinned (.plain (OpenSpec.upto intakeParsesSpec)) intakeParsesUptoCard

/-- THE SECOND FORM's CARD OF 'roadbooklaw23.IntakeFolds'. -/
def intakeFoldsUptoCard : Claim7 := { stood := { row := intakeFoldsUptoRow, standIns := [], harness := (true, "e5cd9faef6a086472a4b0dbc0a8aa72b2db11c0a4400fb3301add04257cff7bf"), looks := false }, kinds := [], alts := [], laidByText := true, laidKinds := [.data, .data, .data], laidTests := true, laidLooks := .later }
def IntakeFoldsUptoCardSaid : Prop := Claim7.holds Tryz.pinned (.plain (OpenSpec.upto intakeFoldsSpec)) intakeFoldsUptoCard
end Rows
end Go.Proofs.YtpkmpinbpfblfaaGreatDoor
