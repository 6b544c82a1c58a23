/-
  DERIVED. GIVEN WITH THE SEED: THE CARDS: each row of YteecialdkfaejaaGreatDoorRows.lean that lists a variable, with what it lists TIED to the program's text (the seventh form; the later family's looks); each row that meets fmt, with fmt's text TOLD by the authors' own Lean function (tested against real Go, not proved from fmt's source: count such statements apart). THE CARD IS WHAT COUNTS. Prove the row's statement (the work); the ties are given (YteecialdkfaejaaGreatDoorTie.lean); close each card by the builder's one call (the guide's Derived/Test/ToyasCard.lean, 'card_holds'). Laid BY PROGRAM, IN A SANDBOX (cutbox-door.mjs). By AI agents, Wed Nov 11 2026. No macro, syntax, notation, axiom, sorry.
-/
import Derived.Test.YteecialdkfaejaaGreatDoorRows
import GoSem.ClaimSeven
namespace Go.Proofs.YteecialdkfaejaaGreatDoor
namespace Rows

/-- THE TIED CARD OF 'roadbooklaw22.CtxTells'. -/
def ctxTellsCard : Claim7 := { stood := { row := ctxTellsRow, standIns := [], harness := (true, "295090d02c9265d7f8179bc6eec14f6554b5c1f47781d64ab16731096286e9df"), looks := false }, kinds := [], alts := [], laidByText := true, laidKinds := [.data, .data], laidTests := true, laidLooks := .later }
def CtxTellsCardSaid : Prop := Claim7.holds Tryz.pinned (.plain (OpenSpec.ofChange ctxTellsSpec)) ctxTellsCard

/-- THE SECOND FORM's CARD OF 'roadbooklaw22.CtxTells'. -/
def ctxTellsUptoCard : Claim7 := { stood := { row := ctxTellsUptoRow, standIns := [], harness := (true, "295090d02c9265d7f8179bc6eec14f6554b5c1f47781d64ab16731096286e9df"), looks := false }, kinds := [], alts := [], laidByText := true, laidKinds := [.data, .data], laidTests := true, laidLooks := .later }
def CtxTellsUptoCardSaid : Prop := Claim7.holds Tryz.pinned (.plain (OpenSpec.upto ctxTellsSpec)) ctxTellsUptoCard
end Rows
end Go.Proofs.YteecialdkfaejaaGreatDoor
