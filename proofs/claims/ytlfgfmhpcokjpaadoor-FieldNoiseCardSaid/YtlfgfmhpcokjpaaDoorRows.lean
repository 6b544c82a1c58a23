/-
  NARROWER THAN 'FOR EVERY INPUT', by the rows' own cells (each row's printed sentence says how): FieldTells: laid · FieldGets: laid · FieldBack: laid · FieldNoise: laid.
  DERIVED. THE GIVEN ROWS OF THIS SEAT. 4 by the template 'for every input the law returns true; each argument reads behind the call as it read before'; 0 by the template 'total and deterministic' (their statements: YtlfgfmhpcokjpaaDoorTotals.lean).
  GIVEN WITH THE SEED: the statements are not yours to turn. If you find one false, say at which input.
  Laid BY PROGRAM, IN A SANDBOX (cutbox-rows.mjs): the forced cells as the released guide's own fill.sh prints them over the translation 0efab541180110c6… (all of the seat's roots in one cut). By AI agents, Wed Nov 11 2026. No macro, syntax, notation, axiom, sorry.
-/
import Derived.Test.YtlfgfmhpcokjpaaDoorChecked
import GoSem.Claim
import GoSem.ClaimJoined
import GoSem.ClaimMapViews
import Derived.JoinedTies
import Derived.KernelRfl
namespace Go.Proofs.YtlfgfmhpcokjpaaDoor
/- THE CELL 'sum', in the pinned program and in every row, IS THE sha256 OF THE DUMP (.gsa) THAT YtlfgfmhpcokjpaaDoorProg.lean LOADS. Nothing in Lean hashes anything: it is a label: what it is worth is what the hold of that sum in a sandbox is worth. -/
noncomputable def Tryd.pinned : Pinned := { name := "ytlfgfmhpcokjpaadoor", sum := "0efab541180110c67c3caedf7d50cff61ced13dae38f3e496660c8fb5e8f21a8", checked := Tryd.checked }
namespace Rows
def none {H : Type} : Left H := { results := [], args := [] }

/- WHAT THE LISTED PACKAGE-LEVEL VARIABLES READ AS WHEN THE CALL BEGINS. Each datum BY PROGRAM (the guide's laid-datum.mjs) off the statement by which the dump's own 'gosem.cut.vars' lays the variable. In a bare row this is a premise. The card (YtlfgfmhpcokjpaaDoorCards.lean) ties it to the program's text. -/
def laid_roadbook_field_addrSizes {H : Type} : DataW H := .agg [.lit (.int .i64 0), .lit (.int .i64 4), .lit (.int .i64 16), .lit (.int .i64 8)]

/-- 'roadbooklaw20.FieldTells': WHATEVER THE INPUT: true; the input reads as it did. -/
def fieldTellsSpec : ChangeSpec := { name := "fieldTells", fn := fun _ => fun
  | [d] => { results := [.lit (.bool true)], args := [d] }
  | _ => none }
def fieldTellsRow : OpenClaim := { program := "ytlfgfmhpcokjpaadoor", sum := "0efab541180110c67c3caedf7d50cff61ced13dae38f3e496660c8fb5e8f21a8", func := "roadbook/roadbooklaw20.FieldTells", spec := "fieldTells", inPlace := ["internal/abi.NoEscape", "internal/bytealg.MakeNoZero"], named := ["roadbook/field.addrSizes"], apart := false, laid := [("roadbook/field.addrSizes", laid_roadbook_field_addrSizes)] }
def FieldTellsSaid : Prop := fieldTellsRow.holds Tryd.pinned (OpenSpec.ofChange fieldTellsSpec)

/-- ITS FALSE NEIGHBOUR: 'it returns false'. Refute it at one input. -/
def fieldTellsWrong : ChangeSpec := { name := "fieldTells", fn := fun _ => fun
  | [d] => { results := [.lit (.bool false)], args := [d] }
  | _ => none }
def FieldTellsWrongFalsely : Prop := fieldTellsRow.holds Tryd.pinned (OpenSpec.ofChange fieldTellsWrong)

/-- 'roadbooklaw20.FieldGets': WHATEVER THE INPUT: true; the input reads as it did. -/
def fieldGetsSpec : ChangeSpec := { name := "fieldGets", fn := fun _ => fun
  | [d] => { results := [.lit (.bool true)], args := [d] }
  | _ => none }
def fieldGetsRow : OpenClaim := { program := "ytlfgfmhpcokjpaadoor", sum := "0efab541180110c67c3caedf7d50cff61ced13dae38f3e496660c8fb5e8f21a8", func := "roadbook/roadbooklaw20.FieldGets", spec := "fieldGets", inPlace := ["internal/abi.NoEscape", "internal/bytealg.MakeNoZero"], named := ["roadbook/field.addrSizes"], apart := false, laid := [("roadbook/field.addrSizes", laid_roadbook_field_addrSizes)] }
def FieldGetsSaid : Prop := fieldGetsRow.holds Tryd.pinned (OpenSpec.ofChange fieldGetsSpec)

/-- ITS FALSE NEIGHBOUR: 'it returns false'. Refute it at one input. -/
def fieldGetsWrong : ChangeSpec := { name := "fieldGets", fn := fun _ => fun
  | [d] => { results := [.lit (.bool false)], args := [d] }
  | _ => none }
def FieldGetsWrongFalsely : Prop := fieldGetsRow.holds Tryd.pinned (OpenSpec.ofChange fieldGetsWrong)

/-- 'roadbooklaw20.FieldBack': WHATEVER THE INPUT: true; the input reads as it did. -/
def fieldBackSpec : ChangeSpec := { name := "fieldBack", fn := fun _ => fun
  | [d1, d2] => { results := [.lit (.bool true)], args := [d1, d2] }
  | _ => none }
def fieldBackRow : OpenClaim := { program := "ytlfgfmhpcokjpaadoor", sum := "0efab541180110c67c3caedf7d50cff61ced13dae38f3e496660c8fb5e8f21a8", func := "roadbook/roadbooklaw20.FieldBack", spec := "fieldBack", inPlace := ["internal/abi.NoEscape", "internal/bytealg.MakeNoZero"], named := ["roadbook/field.addrSizes"], apart := false, laid := [("roadbook/field.addrSizes", laid_roadbook_field_addrSizes)] }
def FieldBackSaid : Prop := fieldBackRow.holds Tryd.pinned (OpenSpec.ofChange fieldBackSpec)

/-- ITS FALSE NEIGHBOUR: 'it returns false'. Refute it at one input. -/
def fieldBackWrong : ChangeSpec := { name := "fieldBack", fn := fun _ => fun
  | [d1, d2] => { results := [.lit (.bool false)], args := [d1, d2] }
  | _ => none }
def FieldBackWrongFalsely : Prop := fieldBackRow.holds Tryd.pinned (OpenSpec.ofChange fieldBackWrong)

/-- 'roadbooklaw20.FieldNoise': WHATEVER THE INPUT: true; the input reads as it did. -/
def fieldNoiseSpec : ChangeSpec := { name := "fieldNoise", fn := fun _ => fun
  | [d1, d2] => { results := [.lit (.bool true)], args := [d1, d2] }
  | _ => none }
def fieldNoiseRow : OpenClaim := { program := "ytlfgfmhpcokjpaadoor", sum := "0efab541180110c67c3caedf7d50cff61ced13dae38f3e496660c8fb5e8f21a8", func := "roadbook/roadbooklaw20.FieldNoise", spec := "fieldNoise", inPlace := ["internal/abi.NoEscape", "internal/bytealg.MakeNoZero"], named := ["roadbook/field.addrSizes"], apart := false, laid := [("roadbook/field.addrSizes", laid_roadbook_field_addrSizes)] }
def FieldNoiseSaid : Prop := fieldNoiseRow.holds Tryd.pinned (OpenSpec.ofChange fieldNoiseSpec)

/-- ITS FALSE NEIGHBOUR: 'it returns false'. Refute it at one input. -/
def fieldNoiseWrong : ChangeSpec := { name := "fieldNoise", fn := fun _ => fun
  | [d1, d2] => { results := [.lit (.bool false)], args := [d1, d2] }
  | _ => none }
def FieldNoiseWrongFalsely : Prop := fieldNoiseRow.holds Tryd.pinned (OpenSpec.ofChange fieldNoiseWrong)

/- THE SECOND FORM. 'bulk': how many values and letters a reading holds, each counted each time it is reached (what is shared counts as often as it is met; a slice's spare places count too). A statement '..UptoSaid' is the law's where the arguments, and the package variables that the reading takes, are together of bulk at most 1048576: NARROWER than '..Said'. Prove '..Said' where nothing that the law and all that it calls make is longer than what came in: it says more and counts as full. Else prove '..UptoSaid'. A law counts once. -/
mutual
def uptoBulk {H : Type} : DataW H → Nat
  | .lit (.string bytes) => bytes.length + 1
  | .lit _ => 1
  | .nil => 1
  | .ptr d => uptoBulk d + 1
  | .slice elems spare => uptoBulkAll elems + uptoBulkAll spare + 1
  | .agg parts => uptoBulkAll parts + 1
  | .iface _ d => uptoBulk d + 1
  | .map entries => uptoBulkEntries entries + 1
  | .held _ => 1
def uptoBulkAll {H : Type} : List (DataW H) → Nat
  | [] => 0
  | d :: r => uptoBulk d + uptoBulkAll r
def uptoBulkEntries {H : Type} : List (Lit × DataW H) → Nat
  | [] => 0
  | x :: r => uptoBulkEntry x + uptoBulkEntries r
def uptoBulkEntry {H : Type} : Lit × DataW H → Nat
  | (.string bytes, d) => bytes.length + uptoBulk d + 1
  | (_, d) => uptoBulk d + 1
 end
def uptoSmall : (H : Type) → List (DataW H) → Bool := fun _ ds => decide (uptoBulkAll ds ≤ 1048576)
def OpenSpec.upto (s : _root_.Go.ChangeSpec) : _root_.Go.OpenSpec := { _root_.Go.OpenSpec.ofChange s with cond := some uptoSmall }

/-- 'roadbooklaw20.FieldTells', WHERE WHAT IT READS IS OF BULK AT MOST 1048576: true; the input reads as it did. -/
def fieldTellsUptoRow : OpenClaim := { program := "ytlfgfmhpcokjpaadoor", sum := "0efab541180110c67c3caedf7d50cff61ced13dae38f3e496660c8fb5e8f21a8", func := "roadbook/roadbooklaw20.FieldTells", spec := "fieldTells", inPlace := ["internal/abi.NoEscape", "internal/bytealg.MakeNoZero"], named := ["roadbook/field.addrSizes"], apart := false, laid := [("roadbook/field.addrSizes", laid_roadbook_field_addrSizes)], narrowed := true }
def FieldTellsUptoSaid : Prop := fieldTellsUptoRow.holds Tryd.pinned (OpenSpec.upto fieldTellsSpec)

/-- 'roadbooklaw20.FieldGets', WHERE WHAT IT READS IS OF BULK AT MOST 1048576: true; the input reads as it did. -/
def fieldGetsUptoRow : OpenClaim := { program := "ytlfgfmhpcokjpaadoor", sum := "0efab541180110c67c3caedf7d50cff61ced13dae38f3e496660c8fb5e8f21a8", func := "roadbook/roadbooklaw20.FieldGets", spec := "fieldGets", inPlace := ["internal/abi.NoEscape", "internal/bytealg.MakeNoZero"], named := ["roadbook/field.addrSizes"], apart := false, laid := [("roadbook/field.addrSizes", laid_roadbook_field_addrSizes)], narrowed := true }
def FieldGetsUptoSaid : Prop := fieldGetsUptoRow.holds Tryd.pinned (OpenSpec.upto fieldGetsSpec)

/-- 'roadbooklaw20.FieldBack', WHERE WHAT IT READS IS OF BULK AT MOST 1048576: true; the input reads as it did. -/
def fieldBackUptoRow : OpenClaim := { program := "ytlfgfmhpcokjpaadoor", sum := "0efab541180110c67c3caedf7d50cff61ced13dae38f3e496660c8fb5e8f21a8", func := "roadbook/roadbooklaw20.FieldBack", spec := "fieldBack", inPlace := ["internal/abi.NoEscape", "internal/bytealg.MakeNoZero"], named := ["roadbook/field.addrSizes"], apart := false, laid := [("roadbook/field.addrSizes", laid_roadbook_field_addrSizes)], narrowed := true }
def FieldBackUptoSaid : Prop := fieldBackUptoRow.holds Tryd.pinned (OpenSpec.upto fieldBackSpec)

/-- 'roadbooklaw20.FieldNoise', WHERE WHAT IT READS IS OF BULK AT MOST 1048576: true; the input reads as it did. -/
def fieldNoiseUptoRow : OpenClaim := { program := "ytlfgfmhpcokjpaadoor", sum := "0efab541180110c67c3caedf7d50cff61ced13dae38f3e496660c8fb5e8f21a8", func := "roadbook/roadbooklaw20.FieldNoise", spec := "fieldNoise", inPlace := ["internal/abi.NoEscape", "internal/bytealg.MakeNoZero"], named := ["roadbook/field.addrSizes"], apart := false, laid := [("roadbook/field.addrSizes", laid_roadbook_field_addrSizes)], narrowed := true }
def FieldNoiseUptoSaid : Prop := fieldNoiseUptoRow.holds Tryd.pinned (OpenSpec.upto fieldNoiseSpec)

end Rows
end Go.Proofs.YtlfgfmhpcokjpaaDoor
