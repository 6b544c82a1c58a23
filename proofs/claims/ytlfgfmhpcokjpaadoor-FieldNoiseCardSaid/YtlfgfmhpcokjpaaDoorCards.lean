/-
  DERIVED. GIVEN WITH THE SEED: THE CARDS: each row of YtlfgfmhpcokjpaaDoorRows.lean that lists a variable, with what it lists TIED to the program's text (the seventh form; the later family's looks); each row that meets fmt, with fmt's text TOLD by the authors' own Lean function (tested against real Go, not proved from fmt's source: count such statements apart). THE CARD IS WHAT COUNTS. Prove the row's statement (the work); the ties are given (YtlfgfmhpcokjpaaDoorTie.lean); close each card by the builder's one call (the guide's Derived/Test/ToyasCard.lean, 'card_holds'). Laid BY PROGRAM, IN A SANDBOX (cutbox-door.mjs). By AI agents, Wed Nov 11 2026. No macro, syntax, notation, axiom, sorry.
-/
import Derived.Test.YtlfgfmhpcokjpaaDoorRows
import GoSem.ClaimSeven
namespace Go.Proofs.YtlfgfmhpcokjpaaDoor
namespace Rows

/-- THE TIED CARD OF 'roadbooklaw20.FieldTells'. -/
def fieldTellsCard : Claim7 := { stood := { row := fieldTellsRow, standIns := [], harness := (true, "3cd7a64a41d105f3c17ccf075198d6d51e748a75b9c03a81a342c2a89bd6e251"), looks := false }, kinds := [], alts := [], laidByText := true, laidKinds := [.data], laidTests := true, laidLooks := .later }
def FieldTellsCardSaid : Prop := Claim7.holds Tryd.pinned (.plain (OpenSpec.ofChange fieldTellsSpec)) fieldTellsCard

/-- THE TIED CARD OF 'roadbooklaw20.FieldGets'. -/
def fieldGetsCard : Claim7 := { stood := { row := fieldGetsRow, standIns := [], harness := (true, "3cd7a64a41d105f3c17ccf075198d6d51e748a75b9c03a81a342c2a89bd6e251"), looks := false }, kinds := [], alts := [], laidByText := true, laidKinds := [.data], laidTests := true, laidLooks := .later }
def FieldGetsCardSaid : Prop := Claim7.holds Tryd.pinned (.plain (OpenSpec.ofChange fieldGetsSpec)) fieldGetsCard

/-- THE TIED CARD OF 'roadbooklaw20.FieldBack'. -/
def fieldBackCard : Claim7 := { stood := { row := fieldBackRow, standIns := [], harness := (true, "3cd7a64a41d105f3c17ccf075198d6d51e748a75b9c03a81a342c2a89bd6e251"), looks := false }, kinds := [], alts := [], laidByText := true, laidKinds := [.data], laidTests := true, laidLooks := .later }
def FieldBackCardSaid : Prop := Claim7.holds Tryd.pinned (.plain (OpenSpec.ofChange fieldBackSpec)) fieldBackCard

/-- THE TIED CARD OF 'roadbooklaw20.FieldNoise'. -/
def fieldNoiseCard : Claim7 := { stood := { row := fieldNoiseRow, standIns := [], harness := (true, "3cd7a64a41d105f3c17ccf075198d6d51e748a75b9c03a81a342c2a89bd6e251"), looks := false }, kinds := [], alts := [], laidByText := true, laidKinds := [.data], laidTests := true, laidLooks := .later }
def FieldNoiseCardSaid : Prop := Claim7.holds Tryd.pinned (.plain (OpenSpec.ofChange fieldNoiseSpec)) fieldNoiseCard

/-- THE SECOND FORM's CARD OF 'roadbooklaw20.FieldTells'. -/
def fieldTellsUptoCard : Claim7 := { stood := { row := fieldTellsUptoRow, standIns := [], harness := (true, "3cd7a64a41d105f3c17ccf075198d6d51e748a75b9c03a81a342c2a89bd6e251"), looks := false }, kinds := [], alts := [], laidByText := true, laidKinds := [.data], laidTests := true, laidLooks := .later }
def FieldTellsUptoCardSaid : Prop := Claim7.holds Tryd.pinned (.plain (OpenSpec.upto fieldTellsSpec)) fieldTellsUptoCard

/-- THE SECOND FORM's CARD OF 'roadbooklaw20.FieldGets'. -/
def fieldGetsUptoCard : Claim7 := { stood := { row := fieldGetsUptoRow, standIns := [], harness := (true, "3cd7a64a41d105f3c17ccf075198d6d51e748a75b9c03a81a342c2a89bd6e251"), looks := false }, kinds := [], alts := [], laidByText := true, laidKinds := [.data], laidTests := true, laidLooks := .later }
def FieldGetsUptoCardSaid : Prop := Claim7.holds Tryd.pinned (.plain (OpenSpec.upto fieldGetsSpec)) fieldGetsUptoCard

/-- THE SECOND FORM's CARD OF 'roadbooklaw20.FieldBack'. -/
def fieldBackUptoCard : Claim7 := { stood := { row := fieldBackUptoRow, standIns := [], harness := (true, "3cd7a64a41d105f3c17ccf075198d6d51e748a75b9c03a81a342c2a89bd6e251"), looks := false }, kinds := [], alts := [], laidByText := true, laidKinds := [.data], laidTests := true, laidLooks := .later }
def FieldBackUptoCardSaid : Prop := Claim7.holds Tryd.pinned (.plain (OpenSpec.upto fieldBackSpec)) fieldBackUptoCard

/-- THE SECOND FORM's CARD OF 'roadbooklaw20.FieldNoise'. -/
def fieldNoiseUptoCard : Claim7 := { stood := { row := fieldNoiseUptoRow, standIns := [], harness := (true, "3cd7a64a41d105f3c17ccf075198d6d51e748a75b9c03a81a342c2a89bd6e251"), looks := false }, kinds := [], alts := [], laidByText := true, laidKinds := [.data], laidTests := true, laidLooks := .later }
def FieldNoiseUptoCardSaid : Prop := Claim7.holds Tryd.pinned (.plain (OpenSpec.upto fieldNoiseSpec)) fieldNoiseUptoCard
end Rows
end Go.Proofs.YtlfgfmhpcokjpaaDoor
