/-
  DERIVED. GIVEN WITH THE SEED: THE CARDS: each row of YtpkmpinbpfblfaaDoorRows.lean that lists a variable, with what it lists TIED to the program's text (the seventh form; the later family's looks); each row that meets fmt, with fmt's text TOLD by the authors' own Lean function (tested against real Go, not proved from fmt's source: count such statements apart). THE CARD IS WHAT COUNTS. Prove the row's statement (the work); the ties are given (YtpkmpinbpfblfaaDoorTie.lean); close each card by the builder's one call (the guide's Derived/Test/ToyasCard.lean, 'card_holds'). Laid BY PROGRAM, IN A SANDBOX (cutbox-door.mjs). By AI agents, Wed Nov 11 2026. No macro, syntax, notation, axiom, sorry.
-/
import Derived.Test.YtpkmpinbpfblfaaDoorRows
import GoSem.ClaimSeven
namespace Go.Proofs.YtpkmpinbpfblfaaDoor
namespace Rows

/-- THE TIED CARD OF 'roadbooklaw23.IntakePads'. -/
def intakePadsCard : Claim7 := { stood := { row := intakePadsRow, standIns := [], harness := (true, "13b9c9e8ea7122e7d795e2bfaf48818fb89fb5caad8d9cf0e7b61d6e6e34ce9d"), looks := false }, kinds := [], alts := [], laidByText := true, laidKinds := [.data, .data, .data], laidTests := true, laidLooks := .later }
def IntakePadsCardSaid : Prop := Claim7.holds Tryd.pinned (.plain (OpenSpec.ofChange intakePadsSpec)) intakePadsCard

/-- THE TIED CARD OF 'roadbooklaw23.IntakeParts'. -/
def intakePartsCard : Claim7 := { stood := { row := intakePartsRow, standIns := [], harness := (true, "13b9c9e8ea7122e7d795e2bfaf48818fb89fb5caad8d9cf0e7b61d6e6e34ce9d"), looks := false }, kinds := [], alts := [], laidByText := true, laidKinds := [.data, .data, .data], laidTests := true, laidLooks := .later }
def IntakePartsCardSaid : Prop := Claim7.holds Tryd.pinned (.plain (OpenSpec.ofChange intakePartsSpec)) intakePartsCard

/-- THE TIED CARD OF 'roadbooklaw23.IntakeOpaque'. -/
def intakeOpaqueCard : Claim7 := { stood := { row := intakeOpaqueRow, standIns := [], harness := (true, "13b9c9e8ea7122e7d795e2bfaf48818fb89fb5caad8d9cf0e7b61d6e6e34ce9d"), looks := false }, kinds := [], alts := [], laidByText := true, laidKinds := [.data, .data, .data], laidTests := true, laidLooks := .later }
def IntakeOpaqueCardSaid : Prop := Claim7.holds Tryd.pinned (.plain (OpenSpec.ofChange intakeOpaqueSpec)) intakeOpaqueCard

/-- THE SECOND FORM's CARD OF 'roadbooklaw23.IntakePads'. -/
def intakePadsUptoCard : Claim7 := { stood := { row := intakePadsUptoRow, standIns := [], harness := (true, "13b9c9e8ea7122e7d795e2bfaf48818fb89fb5caad8d9cf0e7b61d6e6e34ce9d"), looks := false }, kinds := [], alts := [], laidByText := true, laidKinds := [.data, .data, .data], laidTests := true, laidLooks := .later }
def IntakePadsUptoCardSaid : Prop := Claim7.holds Tryd.pinned (.plain (OpenSpec.upto intakePadsSpec)) intakePadsUptoCard

/-- THE SECOND FORM's CARD OF 'roadbooklaw23.IntakeParts'. -/
def intakePartsUptoCard : Claim7 := { stood := { row := intakePartsUptoRow, standIns := [], harness := (true, "13b9c9e8ea7122e7d795e2bfaf48818fb89fb5caad8d9cf0e7b61d6e6e34ce9d"), looks := false }, kinds := [], alts := [], laidByText := true, laidKinds := [.data, .data, .data], laidTests := true, laidLooks := .later }
def IntakePartsUptoCardSaid : Prop := Claim7.holds Tryd.pinned (.plain (OpenSpec.upto intakePartsSpec)) intakePartsUptoCard

/-- THE SECOND FORM's CARD OF 'roadbooklaw23.IntakeOpaque'. -/
def intakeOpaqueUptoCard : Claim7 := { stood := { row := intakeOpaqueUptoRow, standIns := [], harness := (true, "13b9c9e8ea7122e7d795e2bfaf48818fb89fb5caad8d9cf0e7b61d6e6e34ce9d"), looks := false }, kinds := [], alts := [], laidByText := true, laidKinds := [.data, .data, .data], laidTests := true, laidLooks := .later }
def IntakeOpaqueUptoCardSaid : Prop := Claim7.holds Tryd.pinned (.plain (OpenSpec.upto intakeOpaqueSpec)) intakeOpaqueUptoCard
end Rows
end Go.Proofs.YtpkmpinbpfblfaaDoor
