/-
  DERIVED. GIVEN WITH THE SEED: THE CARDS: each row of YtjhfpobjbijcpaaGreatDoorRows.lean that lists a variable, with what it lists TIED to the program's text (the seventh form; the later family's looks); each row that meets fmt, with fmt's text TOLD by the authors' own Lean function (tested against real Go, not proved from fmt's source: count such statements apart). THE CARD IS WHAT COUNTS. Prove the row's statement (the work); the ties are given (YtjhfpobjbijcpaaGreatDoorTie.lean); close each card by the builder's one call (the guide's Derived/Test/ToyasCard.lean, 'card_holds'). Laid BY PROGRAM, IN A SANDBOX (cutbox-door.mjs). By AI agents, Wed Nov 11 2026. No macro, syntax, notation, axiom, sorry.
-/
import Derived.Test.YtjhfpobjbijcpaaGreatDoorRows
import GoSem.ClaimSeven
namespace Go.Proofs.YtjhfpobjbijcpaaGreatDoor
namespace Rows

/-- THE TIED CARD OF 'roadbooklaw25.OutletEncodes'. -/
def outletEncodesCard : Claim7 := { stood := { row := outletEncodesRow, standIns := [], harness := (true, "07098bb92f22c7e38ef6b72ce9ba12e0e534e6c8bbcdf2b1c8eeeba518107e2b"), looks := false }, kinds := [], alts := [], laidByText := true, laidKinds := [.data, .data], laidTests := true, laidLooks := .later }
def OutletEncodesCardSaid : Prop := Claim7.holds Tryz.pinned (.plain (OpenSpec.ofChange outletEncodesSpec)) outletEncodesCard

/-- THE TIED CARD OF 'roadbooklaw25.OutletBack'. -/
def outletBackCard : Claim7 := { stood := { row := outletBackRow, standIns := [], harness := (true, "07098bb92f22c7e38ef6b72ce9ba12e0e534e6c8bbcdf2b1c8eeeba518107e2b"), looks := false }, kinds := [], alts := [], laidByText := true, laidKinds := [.data, .data], laidTests := true, laidLooks := .later }
def OutletBackCardSaid : Prop := Claim7.holds Tryz.pinned (.plain (OpenSpec.ofChange outletBackSpec)) outletBackCard

/-- THE TIED CARD OF 'roadbooklaw25.OutletAgain'. -/
def outletAgainCard : Claim7 := { stood := { row := outletAgainRow, standIns := [], harness := (true, "07098bb92f22c7e38ef6b72ce9ba12e0e534e6c8bbcdf2b1c8eeeba518107e2b"), looks := false }, kinds := [], alts := [], laidByText := true, laidKinds := [.data, .data], laidTests := true, laidLooks := .later }
def OutletAgainCardSaid : Prop := Claim7.holds Tryz.pinned (.plain (OpenSpec.ofChange outletAgainSpec)) outletAgainCard

/-- THE SECOND FORM's CARD OF 'roadbooklaw25.OutletEncodes'. -/
def outletEncodesUptoCard : Claim7 := { stood := { row := outletEncodesUptoRow, standIns := [], harness := (true, "07098bb92f22c7e38ef6b72ce9ba12e0e534e6c8bbcdf2b1c8eeeba518107e2b"), looks := false }, kinds := [], alts := [], laidByText := true, laidKinds := [.data, .data], laidTests := true, laidLooks := .later }
def OutletEncodesUptoCardSaid : Prop := Claim7.holds Tryz.pinned (.plain (OpenSpec.upto outletEncodesSpec)) outletEncodesUptoCard

/-- THE SECOND FORM's CARD OF 'roadbooklaw25.OutletBack'. -/
def outletBackUptoCard : Claim7 := { stood := { row := outletBackUptoRow, standIns := [], harness := (true, "07098bb92f22c7e38ef6b72ce9ba12e0e534e6c8bbcdf2b1c8eeeba518107e2b"), looks := false }, kinds := [], alts := [], laidByText := true, laidKinds := [.data, .data], laidTests := true, laidLooks := .later }
def OutletBackUptoCardSaid : Prop := Claim7.holds Tryz.pinned (.plain (OpenSpec.upto outletBackSpec)) outletBackUptoCard

/-- THE SECOND FORM's CARD OF 'roadbooklaw25.OutletAgain'. -/
def outletAgainUptoCard : Claim7 := { stood := { row := outletAgainUptoRow, standIns := [], harness := (true, "07098bb92f22c7e38ef6b72ce9ba12e0e534e6c8bbcdf2b1c8eeeba518107e2b"), looks := false }, kinds := [], alts := [], laidByText := true, laidKinds := [.data, .data], laidTests := true, laidLooks := .later }
def OutletAgainUptoCardSaid : Prop := Claim7.holds Tryz.pinned (.plain (OpenSpec.upto outletAgainSpec)) outletAgainUptoCard
end Rows
end Go.Proofs.YtjhfpobjbijcpaaGreatDoor
