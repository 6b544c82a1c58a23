/-
  No cell of these rows narrows 'for every input' (looked for: loops, veiled, ifaces, maps, wideKeys, modest, calm, conditions, laid).
  DERIVED. THE GIVEN ROWS OF THIS SEAT. 3 by the template 'for every input the law returns true; each argument reads behind the call as it read before'; 0 by the template 'total and deterministic' (their statements: YtlelfapmleopaaaTotals.lean).
  GIVEN WITH THE SEED: the statements are not yours to turn. If you find one false, say at which input.
  Laid BY PROGRAM, IN A SANDBOX (cutbox-rows.mjs): the forced cells as the released guide's own fill.sh prints them over the translation 0693181a13383f6c… (all of the seat's roots in one cut). By AI agents, Wed Nov 11 2026. No macro, syntax, notation, axiom, sorry.
-/
import Derived.Test.YtlelfapmleopaaaChecked
import GoSem.Claim
import GoSem.ClaimJoined
import GoSem.ClaimMapViews
import Derived.JoinedTies
import Derived.KernelRfl
namespace Go.Proofs.Ytlelfapmleopaaa
/- THE CELL 'sum', in the pinned program and in every row, IS THE sha256 OF THE DUMP (.gsa) THAT YtlelfapmleopaaaProg.lean LOADS. Nothing in Lean hashes anything: it is a label: what it is worth is what the hold of that sum in a sandbox is worth. -/
noncomputable def Try.pinned : Pinned := { name := "ytlelfapmleopaaa", sum := "0693181a13383f6ce13e61cedacb7bb4afd30670b7ba86323f09e84c7c46bea2", checked := Try.checked }
namespace Rows
def none {H : Type} : Left H := { results := [], args := [] }

/-- 'roadbooklaw17.AodvParses': WHATEVER THE INPUT: true; the input reads as it did. -/
def aodvParsesSpec : ChangeSpec := { name := "aodvParses", fn := fun _ => fun
  | [d] => { results := [.lit (.bool true)], args := [d] }
  | _ => none }
def aodvParsesRow : OpenClaim := { program := "ytlelfapmleopaaa", sum := "0693181a13383f6ce13e61cedacb7bb4afd30670b7ba86323f09e84c7c46bea2", func := "roadbook/roadbooklaw17.AodvParses", spec := "aodvParses", inPlace := ["internal/abi.NoEscape", "internal/bytealg.MakeNoZero"], unfollowed := true, recurses := true, apart := false }
def AodvParsesSaid : Prop := aodvParsesRow.holds Try.pinned (OpenSpec.ofChange aodvParsesSpec)

/-- ITS FALSE NEIGHBOUR: 'it returns false'. Refute it at one input. -/
def aodvParsesWrong : ChangeSpec := { name := "aodvParses", fn := fun _ => fun
  | [d] => { results := [.lit (.bool false)], args := [d] }
  | _ => none }
def AodvParsesWrongFalsely : Prop := aodvParsesRow.holds Try.pinned (OpenSpec.ofChange aodvParsesWrong)

/-- 'roadbooklaw17.AodvEncodes': WHATEVER THE INPUT: true; the input reads as it did. -/
def aodvEncodesSpec : ChangeSpec := { name := "aodvEncodes", fn := fun _ => fun
  | [d] => { results := [.lit (.bool true)], args := [d] }
  | _ => none }
def aodvEncodesRow : OpenClaim := { program := "ytlelfapmleopaaa", sum := "0693181a13383f6ce13e61cedacb7bb4afd30670b7ba86323f09e84c7c46bea2", func := "roadbook/roadbooklaw17.AodvEncodes", spec := "aodvEncodes", inPlace := ["internal/abi.NoEscape", "internal/bytealg.MakeNoZero"], unfollowed := true, recurses := true, apart := false }
def AodvEncodesSaid : Prop := aodvEncodesRow.holds Try.pinned (OpenSpec.ofChange aodvEncodesSpec)

/-- ITS FALSE NEIGHBOUR: 'it returns false'. Refute it at one input. -/
def aodvEncodesWrong : ChangeSpec := { name := "aodvEncodes", fn := fun _ => fun
  | [d] => { results := [.lit (.bool false)], args := [d] }
  | _ => none }
def AodvEncodesWrongFalsely : Prop := aodvEncodesRow.holds Try.pinned (OpenSpec.ofChange aodvEncodesWrong)

/-- 'roadbooklaw17.AodvBack': WHATEVER THE INPUT: true; the input reads as it did. -/
def aodvBackSpec : ChangeSpec := { name := "aodvBack", fn := fun _ => fun
  | [d1, d2] => { results := [.lit (.bool true)], args := [d1, d2] }
  | _ => none }
def aodvBackRow : OpenClaim := { program := "ytlelfapmleopaaa", sum := "0693181a13383f6ce13e61cedacb7bb4afd30670b7ba86323f09e84c7c46bea2", func := "roadbook/roadbooklaw17.AodvBack", spec := "aodvBack", inPlace := ["internal/abi.NoEscape", "internal/bytealg.MakeNoZero"], unfollowed := true, recurses := true, apart := false }
def AodvBackSaid : Prop := aodvBackRow.holds Try.pinned (OpenSpec.ofChange aodvBackSpec)

/-- ITS FALSE NEIGHBOUR: 'it returns false'. Refute it at one input. -/
def aodvBackWrong : ChangeSpec := { name := "aodvBack", fn := fun _ => fun
  | [d1, d2] => { results := [.lit (.bool false)], args := [d1, d2] }
  | _ => none }
def AodvBackWrongFalsely : Prop := aodvBackRow.holds Try.pinned (OpenSpec.ofChange aodvBackWrong)

/- THE SECOND FORM. 'bulk': how many values and letters a reading holds, each counted each time it is reached (what is shared counts as often as it is met; a slice's spare places count too). A statement '..UptoSaid' is the law's where the arguments, and the package variables that the reading takes, are together of bulk at most 1048576: NARROWER than '..Said'. Prove '..Said' where nothing that the law and all that it calls make is longer than what came in: it says more and counts as full. Else prove '..UptoSaid'. A law counts once. -/
mutual
def uptoBulk {H : Type} : DataW H → Nat
  | .lit (.string bytes) => bytes.length + 1
  | .lit _ => 1
  | .nil => 1
  | .ptr d => uptoBulk d + 1
  | .slice elems spare => uptoBulkAll elems + uptoBulkAll spare + 1
  | .agg parts => uptoBulkAll parts + 1
  | .iface _ d => uptoBulk d + 1
  | .map entries => uptoBulkEntries entries + 1
  | .held _ => 1
def uptoBulkAll {H : Type} : List (DataW H) → Nat
  | [] => 0
  | d :: r => uptoBulk d + uptoBulkAll r
def uptoBulkEntries {H : Type} : List (Lit × DataW H) → Nat
  | [] => 0
  | x :: r => uptoBulkEntry x + uptoBulkEntries r
def uptoBulkEntry {H : Type} : Lit × DataW H → Nat
  | (.string bytes, d) => bytes.length + uptoBulk d + 1
  | (_, d) => uptoBulk d + 1
 end
def uptoSmall : (H : Type) → List (DataW H) → Bool := fun _ ds => decide (uptoBulkAll ds ≤ 1048576)
def OpenSpec.upto (s : _root_.Go.ChangeSpec) : _root_.Go.OpenSpec := { _root_.Go.OpenSpec.ofChange s with cond := some uptoSmall }

/-- 'roadbooklaw17.AodvParses', WHERE WHAT IT READS IS OF BULK AT MOST 1048576: true; the input reads as it did. -/
def aodvParsesUptoRow : OpenClaim := { program := "ytlelfapmleopaaa", sum := "0693181a13383f6ce13e61cedacb7bb4afd30670b7ba86323f09e84c7c46bea2", func := "roadbook/roadbooklaw17.AodvParses", spec := "aodvParses", inPlace := ["internal/abi.NoEscape", "internal/bytealg.MakeNoZero"], unfollowed := true, recurses := true, apart := false, narrowed := true }
def AodvParsesUptoSaid : Prop := aodvParsesUptoRow.holds Try.pinned (OpenSpec.upto aodvParsesSpec)

/-- 'roadbooklaw17.AodvEncodes', WHERE WHAT IT READS IS OF BULK AT MOST 1048576: true; the input reads as it did. -/
def aodvEncodesUptoRow : OpenClaim := { program := "ytlelfapmleopaaa", sum := "0693181a13383f6ce13e61cedacb7bb4afd30670b7ba86323f09e84c7c46bea2", func := "roadbook/roadbooklaw17.AodvEncodes", spec := "aodvEncodes", inPlace := ["internal/abi.NoEscape", "internal/bytealg.MakeNoZero"], unfollowed := true, recurses := true, apart := false, narrowed := true }
def AodvEncodesUptoSaid : Prop := aodvEncodesUptoRow.holds Try.pinned (OpenSpec.upto aodvEncodesSpec)

/-- 'roadbooklaw17.AodvBack', WHERE WHAT IT READS IS OF BULK AT MOST 1048576: true; the input reads as it did. -/
def aodvBackUptoRow : OpenClaim := { program := "ytlelfapmleopaaa", sum := "0693181a13383f6ce13e61cedacb7bb4afd30670b7ba86323f09e84c7c46bea2", func := "roadbook/roadbooklaw17.AodvBack", spec := "aodvBack", inPlace := ["internal/abi.NoEscape", "internal/bytealg.MakeNoZero"], unfollowed := true, recurses := true, apart := false, narrowed := true }
def AodvBackUptoSaid : Prop := aodvBackUptoRow.holds Try.pinned (OpenSpec.upto aodvBackSpec)

end Rows
end Go.Proofs.Ytlelfapmleopaaa
