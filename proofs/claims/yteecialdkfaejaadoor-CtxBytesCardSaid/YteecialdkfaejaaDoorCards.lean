/-
  DERIVED. GIVEN WITH THE SEED: THE CARDS: each row of YteecialdkfaejaaDoorRows.lean that lists a variable, with what it lists TIED to the program's text (the seventh form; the later family's looks); each row that meets fmt, with fmt's text TOLD by the authors' own Lean function (tested against real Go, not proved from fmt's source: count such statements apart). THE CARD IS WHAT COUNTS. Prove the row's statement (the work); the ties are given (YteecialdkfaejaaDoorTie.lean); close each card by the builder's one call (the guide's Derived/Test/ToyasCard.lean, 'card_holds'). Laid BY PROGRAM, IN A SANDBOX (cutbox-door.mjs). By AI agents, Wed Nov 11 2026. No macro, syntax, notation, axiom, sorry.
-/
import Derived.Test.YteecialdkfaejaaDoorRows
import GoSem.ClaimSeven
namespace Go.Proofs.YteecialdkfaejaaDoor
namespace Rows

/-- THE TIED CARD OF 'roadbooklaw22.CtxFolds'. -/
def ctxFoldsCard : Claim7 := { stood := { row := ctxFoldsRow, standIns := [], harness := (true, "d9170ee99eac828438c2fb2bfda6c25edccc888aa22e77e7072cad435441076a"), looks := false }, kinds := [], alts := [], laidByText := true, laidKinds := [.data, .data], laidTests := true, laidLooks := .later }
def CtxFoldsCardSaid : Prop := Claim7.holds Tryd.pinned (.plain (OpenSpec.ofChange ctxFoldsSpec)) ctxFoldsCard

/-- THE TIED CARD OF 'roadbooklaw22.CtxBytes'. -/
def ctxBytesCard : Claim7 := { stood := { row := ctxBytesRow, standIns := [], harness := (true, "d9170ee99eac828438c2fb2bfda6c25edccc888aa22e77e7072cad435441076a"), looks := false }, kinds := [], alts := [], laidByText := true, laidKinds := [.data, .data], laidTests := true, laidLooks := .later }
def CtxBytesCardSaid : Prop := Claim7.holds Tryd.pinned (.plain (OpenSpec.ofChange ctxBytesSpec)) ctxBytesCard

/-- THE TIED CARD OF 'roadbooklaw22.CtxFar'. -/
def ctxFarCard : Claim7 := { stood := { row := ctxFarRow, standIns := [], harness := (true, "d9170ee99eac828438c2fb2bfda6c25edccc888aa22e77e7072cad435441076a"), looks := false }, kinds := [], alts := [], laidByText := true, laidKinds := [.data, .data], laidTests := true, laidLooks := .later }
def CtxFarCardSaid : Prop := Claim7.holds Tryd.pinned (.plain (OpenSpec.ofChange ctxFarSpec)) ctxFarCard

/-- THE SECOND FORM's CARD OF 'roadbooklaw22.CtxFolds'. -/
def ctxFoldsUptoCard : Claim7 := { stood := { row := ctxFoldsUptoRow, standIns := [], harness := (true, "d9170ee99eac828438c2fb2bfda6c25edccc888aa22e77e7072cad435441076a"), looks := false }, kinds := [], alts := [], laidByText := true, laidKinds := [.data, .data], laidTests := true, laidLooks := .later }
def CtxFoldsUptoCardSaid : Prop := Claim7.holds Tryd.pinned (.plain (OpenSpec.upto ctxFoldsSpec)) ctxFoldsUptoCard

/-- THE SECOND FORM's CARD OF 'roadbooklaw22.CtxBytes'. -/
def ctxBytesUptoCard : Claim7 := { stood := { row := ctxBytesUptoRow, standIns := [], harness := (true, "d9170ee99eac828438c2fb2bfda6c25edccc888aa22e77e7072cad435441076a"), looks := false }, kinds := [], alts := [], laidByText := true, laidKinds := [.data, .data], laidTests := true, laidLooks := .later }
def CtxBytesUptoCardSaid : Prop := Claim7.holds Tryd.pinned (.plain (OpenSpec.upto ctxBytesSpec)) ctxBytesUptoCard

/-- THE SECOND FORM's CARD OF 'roadbooklaw22.CtxFar'. -/
def ctxFarUptoCard : Claim7 := { stood := { row := ctxFarUptoRow, standIns := [], harness := (true, "d9170ee99eac828438c2fb2bfda6c25edccc888aa22e77e7072cad435441076a"), looks := false }, kinds := [], alts := [], laidByText := true, laidKinds := [.data, .data], laidTests := true, laidLooks := .later }
def CtxFarUptoCardSaid : Prop := Claim7.holds Tryd.pinned (.plain (OpenSpec.upto ctxFarSpec)) ctxFarUptoCard
end Rows
end Go.Proofs.YteecialdkfaejaaDoor
