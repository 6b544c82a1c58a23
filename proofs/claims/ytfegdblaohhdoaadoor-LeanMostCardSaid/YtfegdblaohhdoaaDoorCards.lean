/-
  DERIVED. GIVEN WITH THE SEED: THE CARDS: each row of YtfegdblaohhdoaaDoorRows.lean that lists a variable, with what it lists TIED to the program's text (the seventh form; the later family's looks); each row that meets fmt, with fmt's text TOLD by the authors' own Lean function (tested against real Go, not proved from fmt's source: count such statements apart). THE CARD IS WHAT COUNTS. Prove the row's statement (the work); the ties are given (YtfegdblaohhdoaaDoorTie.lean); close each card by the builder's one call (the guide's Derived/Test/ToyasCard.lean, 'card_holds'). Laid BY PROGRAM, IN A SANDBOX (cutbox-door.mjs). By AI agents, Wed Nov 11 2026. No macro, syntax, notation, axiom, sorry.
-/
import Derived.Test.YtfegdblaohhdoaaDoorRows
import GoSem.ClaimSeven
namespace Go.Proofs.YtfegdblaohhdoaaDoor
namespace Rows

/-- THE TIED CARD OF 'roadbooklaw24.LeanMost'. -/
def leanMostCard : Claim7 := { stood := { row := leanMostRow, standIns := [], harness := (true, "6269377fdb7b104c636e13085c0249d5bf00dc8f3263b3cd7346e1727f1b39e9"), looks := false }, kinds := [], alts := [], laidByText := true, laidKinds := [.data, .data], laidTests := true, laidLooks := .later }
def LeanMostCardSaid : Prop := Claim7.holds Tryd.pinned (.plain (OpenSpec.ofChange leanMostSpec)) leanMostCard

/-- THE SECOND FORM's CARD OF 'roadbooklaw24.LeanMost'. -/
def leanMostUptoCard : Claim7 := { stood := { row := leanMostUptoRow, standIns := [], harness := (true, "6269377fdb7b104c636e13085c0249d5bf00dc8f3263b3cd7346e1727f1b39e9"), looks := false }, kinds := [], alts := [], laidByText := true, laidKinds := [.data, .data], laidTests := true, laidLooks := .later }
def LeanMostUptoCardSaid : Prop := Claim7.holds Tryd.pinned (.plain (OpenSpec.upto leanMostSpec)) leanMostUptoCard
end Rows
end Go.Proofs.YtfegdblaohhdoaaDoor
