/-
  NARROWER THAN 'FOR EVERY INPUT', by the rows' own cells (each row's printed sentence says how): OutletEncodes: laid · OutletBack: laid · OutletAgain: laid.
  DERIVED. THE GIVEN ROWS OF THIS SEAT. 3 by the template 'for every input the law returns true; each argument reads behind the call as it read before'; 0 by the template 'total and deterministic' (their statements: YtjhfpobjbijcpaaGreatDoorTotals.lean).
  GIVEN WITH THE SEED: the statements are not yours to turn. If you find one false, say at which input.
  Laid BY PROGRAM, IN A SANDBOX (cutbox-rows.mjs): the forced cells as the released guide's own fill.sh prints them over the translation c56e3ef99d777188… (all of the seat's roots in one cut). By AI agents, Wed Nov 11 2026. No macro, syntax, notation, axiom, sorry.
-/
import Derived.Test.YtjhfpobjbijcpaaGreatDoorChecked
import GoSem.Claim
import GoSem.ClaimJoined
import GoSem.ClaimMapViews
import Derived.JoinedTies
import Derived.KernelRfl
namespace Go.Proofs.YtjhfpobjbijcpaaGreatDoor
/- THE CELL 'sum', in the pinned program and in every row, IS THE sha256 OF THE DUMP (.gsa) THAT YtjhfpobjbijcpaaGreatDoorProg.lean LOADS. Nothing in Lean hashes anything: it is a label: what it is worth is what the hold of that sum in a sandbox is worth. -/
noncomputable def Tryz.pinned : Pinned := { name := "ytjhfpobjbijcpaagreatdoor", sum := "c56e3ef99d77718857881f5268076d05a91f5bf31b858d497e0011583dd16bf3", checked := Tryz.checked }
namespace Rows
def none {H : Type} : Left H := { results := [], args := [] }

/- WHAT THE LISTED PACKAGE-LEVEL VARIABLES READ AS WHEN THE CALL BEGINS. Each datum BY PROGRAM (the guide's laid-datum.mjs) off the statement by which the dump's own 'gosem.cut.vars' lays the variable. In a bare row this is a premise. The card (YtjhfpobjbijcpaaGreatDoorCards.lean) ties it to the program's text. -/
def laid_roadbook_field_addrSizes {H : Type} : DataW H := .agg [.lit (.int .i64 0), .lit (.int .i64 4), .lit (.int .i64 16), .lit (.int .i64 8)]
def laid_roadbook_route_spans {H : Type} : DataW H := .agg [.agg [.lit (.int .i64 0), .lit (.int .i64 0)], .agg [.lit (.int .i64 0), .lit (.int .i64 32)], .agg [.lit (.int .i64 0), .lit (.int .i64 128)], .agg [.lit (.int .i64 64), .lit (.int .i64 128)]]

/-- 'roadbooklaw25.OutletEncodes': WHATEVER THE INPUT: true; the input reads as it did. -/
def outletEncodesSpec : ChangeSpec := { name := "outletEncodes", fn := fun _ => fun
  | [d] => { results := [.lit (.bool true)], args := [d] }
  | _ => none }
def outletEncodesRow : OpenClaim := { program := "ytjhfpobjbijcpaagreatdoor", sum := "c56e3ef99d77718857881f5268076d05a91f5bf31b858d497e0011583dd16bf3", func := "roadbook/roadbooklaw25.OutletEncodes", spec := "outletEncodes", inPlace := ["internal/abi.NoEscape", "internal/bytealg.MakeNoZero"], named := ["roadbook/field.addrSizes", "roadbook/route.spans"], apart := false, laid := [("roadbook/field.addrSizes", laid_roadbook_field_addrSizes), ("roadbook/route.spans", laid_roadbook_route_spans)] }
def OutletEncodesSaid : Prop := outletEncodesRow.holds Tryz.pinned (OpenSpec.ofChange outletEncodesSpec)

/-- ITS FALSE NEIGHBOUR: 'it returns false'. Refute it at one input. -/
def outletEncodesWrong : ChangeSpec := { name := "outletEncodes", fn := fun _ => fun
  | [d] => { results := [.lit (.bool false)], args := [d] }
  | _ => none }
def OutletEncodesWrongFalsely : Prop := outletEncodesRow.holds Tryz.pinned (OpenSpec.ofChange outletEncodesWrong)

/-- 'roadbooklaw25.OutletBack': WHATEVER THE INPUT: true; the input reads as it did. -/
def outletBackSpec : ChangeSpec := { name := "outletBack", fn := fun _ => fun
  | [d] => { results := [.lit (.bool true)], args := [d] }
  | _ => none }
def outletBackRow : OpenClaim := { program := "ytjhfpobjbijcpaagreatdoor", sum := "c56e3ef99d77718857881f5268076d05a91f5bf31b858d497e0011583dd16bf3", func := "roadbook/roadbooklaw25.OutletBack", spec := "outletBack", inPlace := ["internal/abi.NoEscape", "internal/bytealg.MakeNoZero"], named := ["roadbook/field.addrSizes", "roadbook/route.spans"], apart := false, laid := [("roadbook/field.addrSizes", laid_roadbook_field_addrSizes), ("roadbook/route.spans", laid_roadbook_route_spans)] }
def OutletBackSaid : Prop := outletBackRow.holds Tryz.pinned (OpenSpec.ofChange outletBackSpec)

/-- ITS FALSE NEIGHBOUR: 'it returns false'. Refute it at one input. -/
def outletBackWrong : ChangeSpec := { name := "outletBack", fn := fun _ => fun
  | [d] => { results := [.lit (.bool false)], args := [d] }
  | _ => none }
def OutletBackWrongFalsely : Prop := outletBackRow.holds Tryz.pinned (OpenSpec.ofChange outletBackWrong)

/-- 'roadbooklaw25.OutletAgain': WHATEVER THE INPUT: true; the input reads as it did. -/
def outletAgainSpec : ChangeSpec := { name := "outletAgain", fn := fun _ => fun
  | [d] => { results := [.lit (.bool true)], args := [d] }
  | _ => none }
def outletAgainRow : OpenClaim := { program := "ytjhfpobjbijcpaagreatdoor", sum := "c56e3ef99d77718857881f5268076d05a91f5bf31b858d497e0011583dd16bf3", func := "roadbook/roadbooklaw25.OutletAgain", spec := "outletAgain", inPlace := ["internal/abi.NoEscape", "internal/bytealg.MakeNoZero"], named := ["roadbook/field.addrSizes", "roadbook/route.spans"], apart := false, laid := [("roadbook/field.addrSizes", laid_roadbook_field_addrSizes), ("roadbook/route.spans", laid_roadbook_route_spans)] }
def OutletAgainSaid : Prop := outletAgainRow.holds Tryz.pinned (OpenSpec.ofChange outletAgainSpec)

/-- ITS FALSE NEIGHBOUR: 'it returns false'. Refute it at one input. -/
def outletAgainWrong : ChangeSpec := { name := "outletAgain", fn := fun _ => fun
  | [d] => { results := [.lit (.bool false)], args := [d] }
  | _ => none }
def OutletAgainWrongFalsely : Prop := outletAgainRow.holds Tryz.pinned (OpenSpec.ofChange outletAgainWrong)

/- THE SECOND FORM. 'bulk': how many values and letters a reading holds, each counted each time it is reached (what is shared counts as often as it is met; a slice's spare places count too). A statement '..UptoSaid' is the law's where the arguments, and the package variables that the reading takes, are together of bulk at most 1048576: NARROWER than '..Said'. Prove '..Said' where nothing that the law and all that it calls make is longer than what came in: it says more and counts as full. Else prove '..UptoSaid'. A law counts once. -/
mutual
def uptoBulk {H : Type} : DataW H → Nat
  | .lit (.string bytes) => bytes.length + 1
  | .lit _ => 1
  | .nil => 1
  | .ptr d => uptoBulk d + 1
  | .slice elems spare => uptoBulkAll elems + uptoBulkAll spare + 1
  | .agg parts => uptoBulkAll parts + 1
  | .iface _ d => uptoBulk d + 1
  | .map entries => uptoBulkEntries entries + 1
  | .held _ => 1
def uptoBulkAll {H : Type} : List (DataW H) → Nat
  | [] => 0
  | d :: r => uptoBulk d + uptoBulkAll r
def uptoBulkEntries {H : Type} : List (Lit × DataW H) → Nat
  | [] => 0
  | x :: r => uptoBulkEntry x + uptoBulkEntries r
def uptoBulkEntry {H : Type} : Lit × DataW H → Nat
  | (.string bytes, d) => bytes.length + uptoBulk d + 1
  | (_, d) => uptoBulk d + 1
 end
def uptoSmall : (H : Type) → List (DataW H) → Bool := fun _ ds => decide (uptoBulkAll ds ≤ 1048576)
def OpenSpec.upto (s : _root_.Go.ChangeSpec) : _root_.Go.OpenSpec := { _root_.Go.OpenSpec.ofChange s with cond := some uptoSmall }

/-- 'roadbooklaw25.OutletEncodes', WHERE WHAT IT READS IS OF BULK AT MOST 1048576: true; the input reads as it did. -/
def outletEncodesUptoRow : OpenClaim := { program := "ytjhfpobjbijcpaagreatdoor", sum := "c56e3ef99d77718857881f5268076d05a91f5bf31b858d497e0011583dd16bf3", func := "roadbook/roadbooklaw25.OutletEncodes", spec := "outletEncodes", inPlace := ["internal/abi.NoEscape", "internal/bytealg.MakeNoZero"], named := ["roadbook/field.addrSizes", "roadbook/route.spans"], apart := false, laid := [("roadbook/field.addrSizes", laid_roadbook_field_addrSizes), ("roadbook/route.spans", laid_roadbook_route_spans)], narrowed := true }
def OutletEncodesUptoSaid : Prop := outletEncodesUptoRow.holds Tryz.pinned (OpenSpec.upto outletEncodesSpec)

/-- 'roadbooklaw25.OutletBack', WHERE WHAT IT READS IS OF BULK AT MOST 1048576: true; the input reads as it did. -/
def outletBackUptoRow : OpenClaim := { program := "ytjhfpobjbijcpaagreatdoor", sum := "c56e3ef99d77718857881f5268076d05a91f5bf31b858d497e0011583dd16bf3", func := "roadbook/roadbooklaw25.OutletBack", spec := "outletBack", inPlace := ["internal/abi.NoEscape", "internal/bytealg.MakeNoZero"], named := ["roadbook/field.addrSizes", "roadbook/route.spans"], apart := false, laid := [("roadbook/field.addrSizes", laid_roadbook_field_addrSizes), ("roadbook/route.spans", laid_roadbook_route_spans)], narrowed := true }
def OutletBackUptoSaid : Prop := outletBackUptoRow.holds Tryz.pinned (OpenSpec.upto outletBackSpec)

/-- 'roadbooklaw25.OutletAgain', WHERE WHAT IT READS IS OF BULK AT MOST 1048576: true; the input reads as it did. -/
def outletAgainUptoRow : OpenClaim := { program := "ytjhfpobjbijcpaagreatdoor", sum := "c56e3ef99d77718857881f5268076d05a91f5bf31b858d497e0011583dd16bf3", func := "roadbook/roadbooklaw25.OutletAgain", spec := "outletAgain", inPlace := ["internal/abi.NoEscape", "internal/bytealg.MakeNoZero"], named := ["roadbook/field.addrSizes", "roadbook/route.spans"], apart := false, laid := [("roadbook/field.addrSizes", laid_roadbook_field_addrSizes), ("roadbook/route.spans", laid_roadbook_route_spans)], narrowed := true }
def OutletAgainUptoSaid : Prop := outletAgainUptoRow.holds Tryz.pinned (OpenSpec.upto outletAgainSpec)

end Rows
end Go.Proofs.YtjhfpobjbijcpaaGreatDoor
