/-
  NARROWER THAN 'FOR EVERY INPUT', by the rows' own cells (each row's printed sentence says how): RouteTells: laid · RouteGets: laid · RouteBack: laid · RouteTakes: laid · RouteNoise: laid.
  DERIVED. THE GIVEN ROWS OF THIS SEAT. 5 by the template 'for every input the law returns true; each argument reads behind the call as it read before'; 0 by the template 'total and deterministic' (their statements: YtkhdllhlhpkekaaDoorTotals.lean).
  GIVEN WITH THE SEED: the statements are not yours to turn. If you find one false, say at which input.
  Laid BY PROGRAM, IN A SANDBOX (cutbox-rows.mjs): the forced cells as the released guide's own fill.sh prints them over the translation 040364f7bd956d02… (all of the seat's roots in one cut). By AI agents, Wed Nov 11 2026. No macro, syntax, notation, axiom, sorry.
-/
import Derived.Test.YtkhdllhlhpkekaaDoorChecked
import GoSem.Claim
import GoSem.ClaimJoined
import GoSem.ClaimMapViews
import Derived.JoinedTies
import Derived.KernelRfl
namespace Go.Proofs.YtkhdllhlhpkekaaDoor
/- THE CELL 'sum', in the pinned program and in every row, IS THE sha256 OF THE DUMP (.gsa) THAT YtkhdllhlhpkekaaDoorProg.lean LOADS. Nothing in Lean hashes anything: it is a label: what it is worth is what the hold of that sum in a sandbox is worth. -/
noncomputable def Tryd.pinned : Pinned := { name := "ytkhdllhlhpkekaadoor", sum := "040364f7bd956d028c68d34c57df950ebb21579b81a20715deeefecddfad1cff", checked := Tryd.checked }
namespace Rows
def none {H : Type} : Left H := { results := [], args := [] }

/- WHAT THE LISTED PACKAGE-LEVEL VARIABLES READ AS WHEN THE CALL BEGINS. Each datum BY PROGRAM (the guide's laid-datum.mjs) off the statement by which the dump's own 'gosem.cut.vars' lays the variable. In a bare row this is a premise. The card (YtkhdllhlhpkekaaDoorCards.lean) ties it to the program's text. -/
def laid_roadbook_route_spans {H : Type} : DataW H := .agg [.agg [.lit (.int .i64 0), .lit (.int .i64 0)], .agg [.lit (.int .i64 0), .lit (.int .i64 32)], .agg [.lit (.int .i64 0), .lit (.int .i64 128)], .agg [.lit (.int .i64 64), .lit (.int .i64 128)]]

/-- 'roadbooklaw21.RouteTells': WHATEVER THE INPUT: true; the input reads as it did. -/
def routeTellsSpec : ChangeSpec := { name := "routeTells", fn := fun _ => fun
  | [d] => { results := [.lit (.bool true)], args := [d] }
  | _ => none }
def routeTellsRow : OpenClaim := { program := "ytkhdllhlhpkekaadoor", sum := "040364f7bd956d028c68d34c57df950ebb21579b81a20715deeefecddfad1cff", func := "roadbook/roadbooklaw21.RouteTells", spec := "routeTells", inPlace := ["internal/abi.NoEscape", "internal/bytealg.MakeNoZero"], named := ["roadbook/route.spans"], apart := false, laid := [("roadbook/route.spans", laid_roadbook_route_spans)] }
def RouteTellsSaid : Prop := routeTellsRow.holds Tryd.pinned (OpenSpec.ofChange routeTellsSpec)

/-- ITS FALSE NEIGHBOUR: 'it returns false'. Refute it at one input. -/
def routeTellsWrong : ChangeSpec := { name := "routeTells", fn := fun _ => fun
  | [d] => { results := [.lit (.bool false)], args := [d] }
  | _ => none }
def RouteTellsWrongFalsely : Prop := routeTellsRow.holds Tryd.pinned (OpenSpec.ofChange routeTellsWrong)

/-- 'roadbooklaw21.RouteGets': WHATEVER THE INPUT: true; the input reads as it did. -/
def routeGetsSpec : ChangeSpec := { name := "routeGets", fn := fun _ => fun
  | [d] => { results := [.lit (.bool true)], args := [d] }
  | _ => none }
def routeGetsRow : OpenClaim := { program := "ytkhdllhlhpkekaadoor", sum := "040364f7bd956d028c68d34c57df950ebb21579b81a20715deeefecddfad1cff", func := "roadbook/roadbooklaw21.RouteGets", spec := "routeGets", inPlace := ["internal/abi.NoEscape", "internal/bytealg.MakeNoZero"], named := ["roadbook/route.spans"], apart := false, laid := [("roadbook/route.spans", laid_roadbook_route_spans)] }
def RouteGetsSaid : Prop := routeGetsRow.holds Tryd.pinned (OpenSpec.ofChange routeGetsSpec)

/-- ITS FALSE NEIGHBOUR: 'it returns false'. Refute it at one input. -/
def routeGetsWrong : ChangeSpec := { name := "routeGets", fn := fun _ => fun
  | [d] => { results := [.lit (.bool false)], args := [d] }
  | _ => none }
def RouteGetsWrongFalsely : Prop := routeGetsRow.holds Tryd.pinned (OpenSpec.ofChange routeGetsWrong)

/-- 'roadbooklaw21.RouteBack': WHATEVER THE INPUT: true; the input reads as it did. -/
def routeBackSpec : ChangeSpec := { name := "routeBack", fn := fun _ => fun
  | [d1, d2] => { results := [.lit (.bool true)], args := [d1, d2] }
  | _ => none }
def routeBackRow : OpenClaim := { program := "ytkhdllhlhpkekaadoor", sum := "040364f7bd956d028c68d34c57df950ebb21579b81a20715deeefecddfad1cff", func := "roadbook/roadbooklaw21.RouteBack", spec := "routeBack", inPlace := ["internal/abi.NoEscape", "internal/bytealg.MakeNoZero"], named := ["roadbook/route.spans"], apart := false, laid := [("roadbook/route.spans", laid_roadbook_route_spans)] }
def RouteBackSaid : Prop := routeBackRow.holds Tryd.pinned (OpenSpec.ofChange routeBackSpec)

/-- ITS FALSE NEIGHBOUR: 'it returns false'. Refute it at one input. -/
def routeBackWrong : ChangeSpec := { name := "routeBack", fn := fun _ => fun
  | [d1, d2] => { results := [.lit (.bool false)], args := [d1, d2] }
  | _ => none }
def RouteBackWrongFalsely : Prop := routeBackRow.holds Tryd.pinned (OpenSpec.ofChange routeBackWrong)

/-- 'roadbooklaw21.RouteTakes': WHATEVER THE INPUT: true; the input reads as it did. -/
def routeTakesSpec : ChangeSpec := { name := "routeTakes", fn := fun _ => fun
  | [d] => { results := [.lit (.bool true)], args := [d] }
  | _ => none }
def routeTakesRow : OpenClaim := { program := "ytkhdllhlhpkekaadoor", sum := "040364f7bd956d028c68d34c57df950ebb21579b81a20715deeefecddfad1cff", func := "roadbook/roadbooklaw21.RouteTakes", spec := "routeTakes", inPlace := ["internal/abi.NoEscape", "internal/bytealg.MakeNoZero"], named := ["roadbook/route.spans"], apart := false, laid := [("roadbook/route.spans", laid_roadbook_route_spans)] }
def RouteTakesSaid : Prop := routeTakesRow.holds Tryd.pinned (OpenSpec.ofChange routeTakesSpec)

/-- ITS FALSE NEIGHBOUR: 'it returns false'. Refute it at one input. -/
def routeTakesWrong : ChangeSpec := { name := "routeTakes", fn := fun _ => fun
  | [d] => { results := [.lit (.bool false)], args := [d] }
  | _ => none }
def RouteTakesWrongFalsely : Prop := routeTakesRow.holds Tryd.pinned (OpenSpec.ofChange routeTakesWrong)

/-- 'roadbooklaw21.RouteNoise': WHATEVER THE INPUT: true; the input reads as it did. -/
def routeNoiseSpec : ChangeSpec := { name := "routeNoise", fn := fun _ => fun
  | [d1, d2] => { results := [.lit (.bool true)], args := [d1, d2] }
  | _ => none }
def routeNoiseRow : OpenClaim := { program := "ytkhdllhlhpkekaadoor", sum := "040364f7bd956d028c68d34c57df950ebb21579b81a20715deeefecddfad1cff", func := "roadbook/roadbooklaw21.RouteNoise", spec := "routeNoise", inPlace := ["internal/abi.NoEscape", "internal/bytealg.MakeNoZero"], named := ["roadbook/route.spans"], apart := false, laid := [("roadbook/route.spans", laid_roadbook_route_spans)] }
def RouteNoiseSaid : Prop := routeNoiseRow.holds Tryd.pinned (OpenSpec.ofChange routeNoiseSpec)

/-- ITS FALSE NEIGHBOUR: 'it returns false'. Refute it at one input. -/
def routeNoiseWrong : ChangeSpec := { name := "routeNoise", fn := fun _ => fun
  | [d1, d2] => { results := [.lit (.bool false)], args := [d1, d2] }
  | _ => none }
def RouteNoiseWrongFalsely : Prop := routeNoiseRow.holds Tryd.pinned (OpenSpec.ofChange routeNoiseWrong)

/- THE SECOND FORM. 'bulk': how many values and letters a reading holds, each counted each time it is reached (what is shared counts as often as it is met; a slice's spare places count too). A statement '..UptoSaid' is the law's where the arguments, and the package variables that the reading takes, are together of bulk at most 1048576: NARROWER than '..Said'. Prove '..Said' where nothing that the law and all that it calls make is longer than what came in: it says more and counts as full. Else prove '..UptoSaid'. A law counts once. -/
mutual
def uptoBulk {H : Type} : DataW H → Nat
  | .lit (.string bytes) => bytes.length + 1
  | .lit _ => 1
  | .nil => 1
  | .ptr d => uptoBulk d + 1
  | .slice elems spare => uptoBulkAll elems + uptoBulkAll spare + 1
  | .agg parts => uptoBulkAll parts + 1
  | .iface _ d => uptoBulk d + 1
  | .map entries => uptoBulkEntries entries + 1
  | .held _ => 1
def uptoBulkAll {H : Type} : List (DataW H) → Nat
  | [] => 0
  | d :: r => uptoBulk d + uptoBulkAll r
def uptoBulkEntries {H : Type} : List (Lit × DataW H) → Nat
  | [] => 0
  | x :: r => uptoBulkEntry x + uptoBulkEntries r
def uptoBulkEntry {H : Type} : Lit × DataW H → Nat
  | (.string bytes, d) => bytes.length + uptoBulk d + 1
  | (_, d) => uptoBulk d + 1
 end
def uptoSmall : (H : Type) → List (DataW H) → Bool := fun _ ds => decide (uptoBulkAll ds ≤ 1048576)
def OpenSpec.upto (s : _root_.Go.ChangeSpec) : _root_.Go.OpenSpec := { _root_.Go.OpenSpec.ofChange s with cond := some uptoSmall }

/-- 'roadbooklaw21.RouteTells', WHERE WHAT IT READS IS OF BULK AT MOST 1048576: true; the input reads as it did. -/
def routeTellsUptoRow : OpenClaim := { program := "ytkhdllhlhpkekaadoor", sum := "040364f7bd956d028c68d34c57df950ebb21579b81a20715deeefecddfad1cff", func := "roadbook/roadbooklaw21.RouteTells", spec := "routeTells", inPlace := ["internal/abi.NoEscape", "internal/bytealg.MakeNoZero"], named := ["roadbook/route.spans"], apart := false, laid := [("roadbook/route.spans", laid_roadbook_route_spans)], narrowed := true }
def RouteTellsUptoSaid : Prop := routeTellsUptoRow.holds Tryd.pinned (OpenSpec.upto routeTellsSpec)

/-- 'roadbooklaw21.RouteGets', WHERE WHAT IT READS IS OF BULK AT MOST 1048576: true; the input reads as it did. -/
def routeGetsUptoRow : OpenClaim := { program := "ytkhdllhlhpkekaadoor", sum := "040364f7bd956d028c68d34c57df950ebb21579b81a20715deeefecddfad1cff", func := "roadbook/roadbooklaw21.RouteGets", spec := "routeGets", inPlace := ["internal/abi.NoEscape", "internal/bytealg.MakeNoZero"], named := ["roadbook/route.spans"], apart := false, laid := [("roadbook/route.spans", laid_roadbook_route_spans)], narrowed := true }
def RouteGetsUptoSaid : Prop := routeGetsUptoRow.holds Tryd.pinned (OpenSpec.upto routeGetsSpec)

/-- 'roadbooklaw21.RouteBack', WHERE WHAT IT READS IS OF BULK AT MOST 1048576: true; the input reads as it did. -/
def routeBackUptoRow : OpenClaim := { program := "ytkhdllhlhpkekaadoor", sum := "040364f7bd956d028c68d34c57df950ebb21579b81a20715deeefecddfad1cff", func := "roadbook/roadbooklaw21.RouteBack", spec := "routeBack", inPlace := ["internal/abi.NoEscape", "internal/bytealg.MakeNoZero"], named := ["roadbook/route.spans"], apart := false, laid := [("roadbook/route.spans", laid_roadbook_route_spans)], narrowed := true }
def RouteBackUptoSaid : Prop := routeBackUptoRow.holds Tryd.pinned (OpenSpec.upto routeBackSpec)

/-- 'roadbooklaw21.RouteTakes', WHERE WHAT IT READS IS OF BULK AT MOST 1048576: true; the input reads as it did. -/
def routeTakesUptoRow : OpenClaim := { program := "ytkhdllhlhpkekaadoor", sum := "040364f7bd956d028c68d34c57df950ebb21579b81a20715deeefecddfad1cff", func := "roadbook/roadbooklaw21.RouteTakes", spec := "routeTakes", inPlace := ["internal/abi.NoEscape", "internal/bytealg.MakeNoZero"], named := ["roadbook/route.spans"], apart := false, laid := [("roadbook/route.spans", laid_roadbook_route_spans)], narrowed := true }
def RouteTakesUptoSaid : Prop := routeTakesUptoRow.holds Tryd.pinned (OpenSpec.upto routeTakesSpec)

/-- 'roadbooklaw21.RouteNoise', WHERE WHAT IT READS IS OF BULK AT MOST 1048576: true; the input reads as it did. -/
def routeNoiseUptoRow : OpenClaim := { program := "ytkhdllhlhpkekaadoor", sum := "040364f7bd956d028c68d34c57df950ebb21579b81a20715deeefecddfad1cff", func := "roadbook/roadbooklaw21.RouteNoise", spec := "routeNoise", inPlace := ["internal/abi.NoEscape", "internal/bytealg.MakeNoZero"], named := ["roadbook/route.spans"], apart := false, laid := [("roadbook/route.spans", laid_roadbook_route_spans)], narrowed := true }
def RouteNoiseUptoSaid : Prop := routeNoiseUptoRow.holds Tryd.pinned (OpenSpec.upto routeNoiseSpec)

end Rows
end Go.Proofs.YtkhdllhlhpkekaaDoor
