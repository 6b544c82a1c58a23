/-
  NARROWER THAN 'FOR EVERY INPUT', by the rows' own cells (each row's printed sentence says how): SuiteTells: laid · SuiteBack: laid · SuiteAgain: laid · SuiteOne: laid.
  DERIVED. THE GIVEN ROWS OF THIS SEAT. 4 by the template 'for every input the law returns true; each argument reads behind the call as it read before'; 0 by the template 'total and deterministic' (their statements: YtllhobicfclheaaGreatDoorTotals.lean).
  GIVEN WITH THE SEED: the statements are not yours to turn. If you find one false, say at which input.
  Laid BY PROGRAM, IN A SANDBOX (cutbox-rows.mjs): the forced cells as the released guide's own fill.sh prints them over the translation 1b2a617a8a90d9c2… (all of the seat's roots in one cut). By AI agents, Wed Nov 11 2026. No macro, syntax, notation, axiom, sorry.
-/
import Derived.Test.YtllhobicfclheaaGreatDoorChecked
import GoSem.Claim
import GoSem.ClaimJoined
import GoSem.ClaimMapViews
import Derived.JoinedTies
import Derived.KernelRfl
namespace Go.Proofs.YtllhobicfclheaaGreatDoor
/- THE CELL 'sum', in the pinned program and in every row, IS THE sha256 OF THE DUMP (.gsa) THAT YtllhobicfclheaaGreatDoorProg.lean LOADS. Nothing in Lean hashes anything: it is a label: what it is worth is what the hold of that sum in a sandbox is worth. -/
noncomputable def Tryz.pinned : Pinned := { name := "ytllhobicfclheaagreatdoor", sum := "1b2a617a8a90d9c2913e5810b25b3e959eaeac1c76daabb44bd9ca4975723650", checked := Tryz.checked }
namespace Rows
def none {H : Type} : Left H := { results := [], args := [] }

/- WHAT THE LISTED PACKAGE-LEVEL VARIABLES READ AS WHEN THE CALL BEGINS. Each datum BY PROGRAM (the guide's laid-datum.mjs) off the statement by which the dump's own 'gosem.cut.vars' lays the variable. In a bare row this is a premise. The card (YtllhobicfclheaaGreatDoorCards.lean) ties it to the program's text. -/
def laid_roadbook_field_addrSizes {H : Type} : DataW H := .agg [.lit (.int .i64 0), .lit (.int .i64 4), .lit (.int .i64 16), .lit (.int .i64 8)]
def laid_roadbook_route_spans {H : Type} : DataW H := .agg [.agg [.lit (.int .i64 0), .lit (.int .i64 0)], .agg [.lit (.int .i64 0), .lit (.int .i64 32)], .agg [.lit (.int .i64 0), .lit (.int .i64 128)], .agg [.lit (.int .i64 64), .lit (.int .i64 128)]]
def laid_roadbook_ctx_sizes {H : Type} : DataW H := .agg [.lit (.int .i64 0), .lit (.int .i64 4), .lit (.int .i64 16), .lit (.int .i64 8)]

/-- 'roadbooklaw26.SuiteTells': WHATEVER THE INPUT: true; the input reads as it did. -/
def suiteTellsSpec : ChangeSpec := { name := "suiteTells", fn := fun _ => fun
  | [d1, d2, d3] => { results := [.lit (.bool true)], args := [d1, d2, d3] }
  | _ => none }
def suiteTellsRow : OpenClaim := { program := "ytllhobicfclheaagreatdoor", sum := "1b2a617a8a90d9c2913e5810b25b3e959eaeac1c76daabb44bd9ca4975723650", func := "roadbook/roadbooklaw26.SuiteTells", spec := "suiteTells", inPlace := ["internal/abi.NoEscape", "internal/bytealg.MakeNoZero"], unfollowed := true, recurses := true, named := ["roadbook/field.addrSizes", "roadbook/route.spans", "roadbook/ctx.sizes"], apart := false, laid := [("roadbook/field.addrSizes", laid_roadbook_field_addrSizes), ("roadbook/route.spans", laid_roadbook_route_spans), ("roadbook/ctx.sizes", laid_roadbook_ctx_sizes)] }
def SuiteTellsSaid : Prop := suiteTellsRow.holds Tryz.pinned (OpenSpec.ofChange suiteTellsSpec)

/-- ITS FALSE NEIGHBOUR: 'it returns false'. Refute it at one input. -/
def suiteTellsWrong : ChangeSpec := { name := "suiteTells", fn := fun _ => fun
  | [d1, d2, d3] => { results := [.lit (.bool false)], args := [d1, d2, d3] }
  | _ => none }
def SuiteTellsWrongFalsely : Prop := suiteTellsRow.holds Tryz.pinned (OpenSpec.ofChange suiteTellsWrong)

/-- 'roadbooklaw26.SuiteBack': WHATEVER THE INPUT: true; the input reads as it did. -/
def suiteBackSpec : ChangeSpec := { name := "suiteBack", fn := fun _ => fun
  | [d1, d2] => { results := [.lit (.bool true)], args := [d1, d2] }
  | _ => none }
def suiteBackRow : OpenClaim := { program := "ytllhobicfclheaagreatdoor", sum := "1b2a617a8a90d9c2913e5810b25b3e959eaeac1c76daabb44bd9ca4975723650", func := "roadbook/roadbooklaw26.SuiteBack", spec := "suiteBack", inPlace := ["internal/abi.NoEscape", "internal/bytealg.MakeNoZero"], unfollowed := true, recurses := true, named := ["roadbook/field.addrSizes", "roadbook/route.spans", "roadbook/ctx.sizes"], apart := false, laid := [("roadbook/field.addrSizes", laid_roadbook_field_addrSizes), ("roadbook/route.spans", laid_roadbook_route_spans), ("roadbook/ctx.sizes", laid_roadbook_ctx_sizes)] }
def SuiteBackSaid : Prop := suiteBackRow.holds Tryz.pinned (OpenSpec.ofChange suiteBackSpec)

/-- ITS FALSE NEIGHBOUR: 'it returns false'. Refute it at one input. -/
def suiteBackWrong : ChangeSpec := { name := "suiteBack", fn := fun _ => fun
  | [d1, d2] => { results := [.lit (.bool false)], args := [d1, d2] }
  | _ => none }
def SuiteBackWrongFalsely : Prop := suiteBackRow.holds Tryz.pinned (OpenSpec.ofChange suiteBackWrong)

/-- 'roadbooklaw26.SuiteAgain': WHATEVER THE INPUT: true; the input reads as it did. -/
def suiteAgainSpec : ChangeSpec := { name := "suiteAgain", fn := fun _ => fun
  | [d1, d2] => { results := [.lit (.bool true)], args := [d1, d2] }
  | _ => none }
def suiteAgainRow : OpenClaim := { program := "ytllhobicfclheaagreatdoor", sum := "1b2a617a8a90d9c2913e5810b25b3e959eaeac1c76daabb44bd9ca4975723650", func := "roadbook/roadbooklaw26.SuiteAgain", spec := "suiteAgain", inPlace := ["internal/abi.NoEscape", "internal/bytealg.MakeNoZero"], unfollowed := true, recurses := true, named := ["roadbook/field.addrSizes", "roadbook/route.spans", "roadbook/ctx.sizes"], apart := false, laid := [("roadbook/field.addrSizes", laid_roadbook_field_addrSizes), ("roadbook/route.spans", laid_roadbook_route_spans), ("roadbook/ctx.sizes", laid_roadbook_ctx_sizes)] }
def SuiteAgainSaid : Prop := suiteAgainRow.holds Tryz.pinned (OpenSpec.ofChange suiteAgainSpec)

/-- ITS FALSE NEIGHBOUR: 'it returns false'. Refute it at one input. -/
def suiteAgainWrong : ChangeSpec := { name := "suiteAgain", fn := fun _ => fun
  | [d1, d2] => { results := [.lit (.bool false)], args := [d1, d2] }
  | _ => none }
def SuiteAgainWrongFalsely : Prop := suiteAgainRow.holds Tryz.pinned (OpenSpec.ofChange suiteAgainWrong)

/-- 'roadbooklaw26.SuiteOne': WHATEVER THE INPUT: true; the input reads as it did. -/
def suiteOneSpec : ChangeSpec := { name := "suiteOne", fn := fun _ => fun
  | [d] => { results := [.lit (.bool true)], args := [d] }
  | _ => none }
def suiteOneRow : OpenClaim := { program := "ytllhobicfclheaagreatdoor", sum := "1b2a617a8a90d9c2913e5810b25b3e959eaeac1c76daabb44bd9ca4975723650", func := "roadbook/roadbooklaw26.SuiteOne", spec := "suiteOne", inPlace := ["internal/abi.NoEscape", "internal/bytealg.MakeNoZero"], unfollowed := true, recurses := true, named := ["roadbook/field.addrSizes", "roadbook/route.spans", "roadbook/ctx.sizes"], apart := false, laid := [("roadbook/field.addrSizes", laid_roadbook_field_addrSizes), ("roadbook/route.spans", laid_roadbook_route_spans), ("roadbook/ctx.sizes", laid_roadbook_ctx_sizes)] }
def SuiteOneSaid : Prop := suiteOneRow.holds Tryz.pinned (OpenSpec.ofChange suiteOneSpec)

/-- ITS FALSE NEIGHBOUR: 'it returns false'. Refute it at one input. -/
def suiteOneWrong : ChangeSpec := { name := "suiteOne", fn := fun _ => fun
  | [d] => { results := [.lit (.bool false)], args := [d] }
  | _ => none }
def SuiteOneWrongFalsely : Prop := suiteOneRow.holds Tryz.pinned (OpenSpec.ofChange suiteOneWrong)

/- THE SECOND FORM. 'bulk': how many values and letters a reading holds, each counted each time it is reached (what is shared counts as often as it is met; a slice's spare places count too). A statement '..UptoSaid' is the law's where the arguments, and the package variables that the reading takes, are together of bulk at most 1048576: NARROWER than '..Said'. Prove '..Said' where nothing that the law and all that it calls make is longer than what came in: it says more and counts as full. Else prove '..UptoSaid'. A law counts once. -/
mutual
def uptoBulk {H : Type} : DataW H → Nat
  | .lit (.string bytes) => bytes.length + 1
  | .lit _ => 1
  | .nil => 1
  | .ptr d => uptoBulk d + 1
  | .slice elems spare => uptoBulkAll elems + uptoBulkAll spare + 1
  | .agg parts => uptoBulkAll parts + 1
  | .iface _ d => uptoBulk d + 1
  | .map entries => uptoBulkEntries entries + 1
  | .held _ => 1
def uptoBulkAll {H : Type} : List (DataW H) → Nat
  | [] => 0
  | d :: r => uptoBulk d + uptoBulkAll r
def uptoBulkEntries {H : Type} : List (Lit × DataW H) → Nat
  | [] => 0
  | x :: r => uptoBulkEntry x + uptoBulkEntries r
def uptoBulkEntry {H : Type} : Lit × DataW H → Nat
  | (.string bytes, d) => bytes.length + uptoBulk d + 1
  | (_, d) => uptoBulk d + 1
 end
def uptoSmall : (H : Type) → List (DataW H) → Bool := fun _ ds => decide (uptoBulkAll ds ≤ 1048576)
def OpenSpec.upto (s : _root_.Go.ChangeSpec) : _root_.Go.OpenSpec := { _root_.Go.OpenSpec.ofChange s with cond := some uptoSmall }

/-- 'roadbooklaw26.SuiteTells', WHERE WHAT IT READS IS OF BULK AT MOST 1048576: true; the input reads as it did. -/
def suiteTellsUptoRow : OpenClaim := { program := "ytllhobicfclheaagreatdoor", sum := "1b2a617a8a90d9c2913e5810b25b3e959eaeac1c76daabb44bd9ca4975723650", func := "roadbook/roadbooklaw26.SuiteTells", spec := "suiteTells", inPlace := ["internal/abi.NoEscape", "internal/bytealg.MakeNoZero"], unfollowed := true, recurses := true, named := ["roadbook/field.addrSizes", "roadbook/route.spans", "roadbook/ctx.sizes"], apart := false, laid := [("roadbook/field.addrSizes", laid_roadbook_field_addrSizes), ("roadbook/route.spans", laid_roadbook_route_spans), ("roadbook/ctx.sizes", laid_roadbook_ctx_sizes)], narrowed := true }
def SuiteTellsUptoSaid : Prop := suiteTellsUptoRow.holds Tryz.pinned (OpenSpec.upto suiteTellsSpec)

/-- 'roadbooklaw26.SuiteBack', WHERE WHAT IT READS IS OF BULK AT MOST 1048576: true; the input reads as it did. -/
def suiteBackUptoRow : OpenClaim := { program := "ytllhobicfclheaagreatdoor", sum := "1b2a617a8a90d9c2913e5810b25b3e959eaeac1c76daabb44bd9ca4975723650", func := "roadbook/roadbooklaw26.SuiteBack", spec := "suiteBack", inPlace := ["internal/abi.NoEscape", "internal/bytealg.MakeNoZero"], unfollowed := true, recurses := true, named := ["roadbook/field.addrSizes", "roadbook/route.spans", "roadbook/ctx.sizes"], apart := false, laid := [("roadbook/field.addrSizes", laid_roadbook_field_addrSizes), ("roadbook/route.spans", laid_roadbook_route_spans), ("roadbook/ctx.sizes", laid_roadbook_ctx_sizes)], narrowed := true }
def SuiteBackUptoSaid : Prop := suiteBackUptoRow.holds Tryz.pinned (OpenSpec.upto suiteBackSpec)

/-- 'roadbooklaw26.SuiteAgain', WHERE WHAT IT READS IS OF BULK AT MOST 1048576: true; the input reads as it did. -/
def suiteAgainUptoRow : OpenClaim := { program := "ytllhobicfclheaagreatdoor", sum := "1b2a617a8a90d9c2913e5810b25b3e959eaeac1c76daabb44bd9ca4975723650", func := "roadbook/roadbooklaw26.SuiteAgain", spec := "suiteAgain", inPlace := ["internal/abi.NoEscape", "internal/bytealg.MakeNoZero"], unfollowed := true, recurses := true, named := ["roadbook/field.addrSizes", "roadbook/route.spans", "roadbook/ctx.sizes"], apart := false, laid := [("roadbook/field.addrSizes", laid_roadbook_field_addrSizes), ("roadbook/route.spans", laid_roadbook_route_spans), ("roadbook/ctx.sizes", laid_roadbook_ctx_sizes)], narrowed := true }
def SuiteAgainUptoSaid : Prop := suiteAgainUptoRow.holds Tryz.pinned (OpenSpec.upto suiteAgainSpec)

/-- 'roadbooklaw26.SuiteOne', WHERE WHAT IT READS IS OF BULK AT MOST 1048576: true; the input reads as it did. -/
def suiteOneUptoRow : OpenClaim := { program := "ytllhobicfclheaagreatdoor", sum := "1b2a617a8a90d9c2913e5810b25b3e959eaeac1c76daabb44bd9ca4975723650", func := "roadbook/roadbooklaw26.SuiteOne", spec := "suiteOne", inPlace := ["internal/abi.NoEscape", "internal/bytealg.MakeNoZero"], unfollowed := true, recurses := true, named := ["roadbook/field.addrSizes", "roadbook/route.spans", "roadbook/ctx.sizes"], apart := false, laid := [("roadbook/field.addrSizes", laid_roadbook_field_addrSizes), ("roadbook/route.spans", laid_roadbook_route_spans), ("roadbook/ctx.sizes", laid_roadbook_ctx_sizes)], narrowed := true }
def SuiteOneUptoSaid : Prop := suiteOneUptoRow.holds Tryz.pinned (OpenSpec.upto suiteOneSpec)

end Rows
end Go.Proofs.YtllhobicfclheaaGreatDoor
