/-
  DERIVED. GIVEN WITH THE SEED: THE CARDS: each row of YtjhfpobjbijcpaaDoorRows.lean that lists a variable, with what it lists TIED to the program's text (the seventh form; the later family's looks); each row that meets fmt, with fmt's text TOLD by the authors' own Lean function (tested against real Go, not proved from fmt's source: count such statements apart). THE CARD IS WHAT COUNTS. Prove the row's statement (the work); the ties are given (YtjhfpobjbijcpaaDoorTie.lean); close each card by the builder's one call (the guide's Derived/Test/ToyasCard.lean, 'card_holds'). Laid BY PROGRAM, IN A SANDBOX (cutbox-door.mjs). By AI agents, Wed Nov 11 2026. No macro, syntax, notation, axiom, sorry.
-/
import Derived.Test.YtjhfpobjbijcpaaDoorRows
import GoSem.ClaimSeven
namespace Go.Proofs.YtjhfpobjbijcpaaDoor
namespace Rows

/-- THE TIED CARD OF 'roadbooklaw25.OutletFirst'. -/
def outletFirstCard : Claim7 := { stood := { row := outletFirstRow, standIns := [], harness := (true, "a71e2106a45eaed17c1a825a9ef82275ae80dc5c480408aa1e39612fa710e758"), looks := false }, kinds := [], alts := [], laidByText := true, laidKinds := [.data, .data], laidTests := true, laidLooks := .later }
def OutletFirstCardSaid : Prop := Claim7.holds Tryd.pinned (.plain (OpenSpec.ofChange outletFirstSpec)) outletFirstCard

/-- THE SECOND FORM's CARD OF 'roadbooklaw25.OutletFirst'. -/
def outletFirstUptoCard : Claim7 := { stood := { row := outletFirstUptoRow, standIns := [], harness := (true, "a71e2106a45eaed17c1a825a9ef82275ae80dc5c480408aa1e39612fa710e758"), looks := false }, kinds := [], alts := [], laidByText := true, laidKinds := [.data, .data], laidTests := true, laidLooks := .later }
def OutletFirstUptoCardSaid : Prop := Claim7.holds Tryd.pinned (.plain (OpenSpec.upto outletFirstSpec)) outletFirstUptoCard
end Rows
end Go.Proofs.YtjhfpobjbijcpaaDoor
