/-
  DERIVED. GIVEN WITH THE SEED: THE CARDS: each row of YtkhdllhlhpkekaaDoorRows.lean that lists a variable, with what it lists TIED to the program's text (the seventh form; the later family's looks); each row that meets fmt, with fmt's text TOLD by the authors' own Lean function (tested against real Go, not proved from fmt's source: count such statements apart). THE CARD IS WHAT COUNTS. Prove the row's statement (the work); the ties are given (YtkhdllhlhpkekaaDoorTie.lean); close each card by the builder's one call (the guide's Derived/Test/ToyasCard.lean, 'card_holds'). Laid BY PROGRAM, IN A SANDBOX (cutbox-door.mjs). By AI agents, Wed Nov 11 2026. No macro, syntax, notation, axiom, sorry.
-/
import Derived.Test.YtkhdllhlhpkekaaDoorRows
import GoSem.ClaimSeven
namespace Go.Proofs.YtkhdllhlhpkekaaDoor
namespace Rows

/-- THE TIED CARD OF 'roadbooklaw21.RouteTells'. -/
def routeTellsCard : Claim7 := { stood := { row := routeTellsRow, standIns := [], harness := (true, "24b8ee2bdbb3546facaaa9bf42a0f451394fbeafe1d0d898712e4050394e30d6"), looks := false }, kinds := [], alts := [], laidByText := true, laidKinds := [.data], laidTests := true, laidLooks := .later }
def RouteTellsCardSaid : Prop := Claim7.holds Tryd.pinned (.plain (OpenSpec.ofChange routeTellsSpec)) routeTellsCard

/-- THE TIED CARD OF 'roadbooklaw21.RouteGets'. -/
def routeGetsCard : Claim7 := { stood := { row := routeGetsRow, standIns := [], harness := (true, "24b8ee2bdbb3546facaaa9bf42a0f451394fbeafe1d0d898712e4050394e30d6"), looks := false }, kinds := [], alts := [], laidByText := true, laidKinds := [.data], laidTests := true, laidLooks := .later }
def RouteGetsCardSaid : Prop := Claim7.holds Tryd.pinned (.plain (OpenSpec.ofChange routeGetsSpec)) routeGetsCard

/-- THE TIED CARD OF 'roadbooklaw21.RouteBack'. -/
def routeBackCard : Claim7 := { stood := { row := routeBackRow, standIns := [], harness := (true, "24b8ee2bdbb3546facaaa9bf42a0f451394fbeafe1d0d898712e4050394e30d6"), looks := false }, kinds := [], alts := [], laidByText := true, laidKinds := [.data], laidTests := true, laidLooks := .later }
def RouteBackCardSaid : Prop := Claim7.holds Tryd.pinned (.plain (OpenSpec.ofChange routeBackSpec)) routeBackCard

/-- THE TIED CARD OF 'roadbooklaw21.RouteTakes'. -/
def routeTakesCard : Claim7 := { stood := { row := routeTakesRow, standIns := [], harness := (true, "24b8ee2bdbb3546facaaa9bf42a0f451394fbeafe1d0d898712e4050394e30d6"), looks := false }, kinds := [], alts := [], laidByText := true, laidKinds := [.data], laidTests := true, laidLooks := .later }
def RouteTakesCardSaid : Prop := Claim7.holds Tryd.pinned (.plain (OpenSpec.ofChange routeTakesSpec)) routeTakesCard

/-- THE TIED CARD OF 'roadbooklaw21.RouteNoise'. -/
def routeNoiseCard : Claim7 := { stood := { row := routeNoiseRow, standIns := [], harness := (true, "24b8ee2bdbb3546facaaa9bf42a0f451394fbeafe1d0d898712e4050394e30d6"), looks := false }, kinds := [], alts := [], laidByText := true, laidKinds := [.data], laidTests := true, laidLooks := .later }
def RouteNoiseCardSaid : Prop := Claim7.holds Tryd.pinned (.plain (OpenSpec.ofChange routeNoiseSpec)) routeNoiseCard

/-- THE SECOND FORM's CARD OF 'roadbooklaw21.RouteTells'. -/
def routeTellsUptoCard : Claim7 := { stood := { row := routeTellsUptoRow, standIns := [], harness := (true, "24b8ee2bdbb3546facaaa9bf42a0f451394fbeafe1d0d898712e4050394e30d6"), looks := false }, kinds := [], alts := [], laidByText := true, laidKinds := [.data], laidTests := true, laidLooks := .later }
def RouteTellsUptoCardSaid : Prop := Claim7.holds Tryd.pinned (.plain (OpenSpec.upto routeTellsSpec)) routeTellsUptoCard

/-- THE SECOND FORM's CARD OF 'roadbooklaw21.RouteGets'. -/
def routeGetsUptoCard : Claim7 := { stood := { row := routeGetsUptoRow, standIns := [], harness := (true, "24b8ee2bdbb3546facaaa9bf42a0f451394fbeafe1d0d898712e4050394e30d6"), looks := false }, kinds := [], alts := [], laidByText := true, laidKinds := [.data], laidTests := true, laidLooks := .later }
def RouteGetsUptoCardSaid : Prop := Claim7.holds Tryd.pinned (.plain (OpenSpec.upto routeGetsSpec)) routeGetsUptoCard

/-- THE SECOND FORM's CARD OF 'roadbooklaw21.RouteBack'. -/
def routeBackUptoCard : Claim7 := { stood := { row := routeBackUptoRow, standIns := [], harness := (true, "24b8ee2bdbb3546facaaa9bf42a0f451394fbeafe1d0d898712e4050394e30d6"), looks := false }, kinds := [], alts := [], laidByText := true, laidKinds := [.data], laidTests := true, laidLooks := .later }
def RouteBackUptoCardSaid : Prop := Claim7.holds Tryd.pinned (.plain (OpenSpec.upto routeBackSpec)) routeBackUptoCard

/-- THE SECOND FORM's CARD OF 'roadbooklaw21.RouteTakes'. -/
def routeTakesUptoCard : Claim7 := { stood := { row := routeTakesUptoRow, standIns := [], harness := (true, "24b8ee2bdbb3546facaaa9bf42a0f451394fbeafe1d0d898712e4050394e30d6"), looks := false }, kinds := [], alts := [], laidByText := true, laidKinds := [.data], laidTests := true, laidLooks := .later }
def RouteTakesUptoCardSaid : Prop := Claim7.holds Tryd.pinned (.plain (OpenSpec.upto routeTakesSpec)) routeTakesUptoCard

/-- THE SECOND FORM's CARD OF 'roadbooklaw21.RouteNoise'. -/
def routeNoiseUptoCard : Claim7 := { stood := { row := routeNoiseUptoRow, standIns := [], harness := (true, "24b8ee2bdbb3546facaaa9bf42a0f451394fbeafe1d0d898712e4050394e30d6"), looks := false }, kinds := [], alts := [], laidByText := true, laidKinds := [.data], laidTests := true, laidLooks := .later }
def RouteNoiseUptoCardSaid : Prop := Claim7.holds Tryd.pinned (.plain (OpenSpec.upto routeNoiseSpec)) routeNoiseUptoCard
end Rows
end Go.Proofs.YtkhdllhlhpkekaaDoor
