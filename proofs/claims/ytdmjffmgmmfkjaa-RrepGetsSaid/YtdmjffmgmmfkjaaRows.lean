/-
  No cell of these rows narrows 'for every input' (looked for: loops, veiled, ifaces, maps, wideKeys, modest, calm, conditions, laid).
  DERIVED. THE GIVEN ROWS OF THIS SEAT. 3 by the template 'for every input the law returns true; each argument reads behind the call as it read before'; 0 by the template 'total and deterministic' (their statements: YtdmjffmgmmfkjaaTotals.lean).
  GIVEN WITH THE SEED: the statements are not yours to turn. If you find one false, say at which input.
  Laid BY PROGRAM, IN A SANDBOX (cutbox-rows.mjs): the forced cells as the released guide's own fill.sh prints them over the translation 01d19ab9b1f43f86… (all of the seat's roots in one cut). By AI agents, Wed Nov 11 2026. No macro, syntax, notation, axiom, sorry.
-/
import Derived.Test.YtdmjffmgmmfkjaaChecked
import GoSem.Claim
import GoSem.ClaimJoined
import GoSem.ClaimMapViews
import Derived.JoinedTies
import Derived.KernelRfl
namespace Go.Proofs.Ytdmjffmgmmfkjaa
/- THE CELL 'sum', in the pinned program and in every row, IS THE sha256 OF THE DUMP (.gsa) THAT YtdmjffmgmmfkjaaProg.lean LOADS. Nothing in Lean hashes anything: it is a label: what it is worth is what the hold of that sum in a sandbox is worth. -/
noncomputable def Try.pinned : Pinned := { name := "ytdmjffmgmmfkjaa", sum := "01d19ab9b1f43f86776b973f768f270924f03e647abcd117d75dd843cc0bbcdd", checked := Try.checked }
namespace Rows
def none {H : Type} : Left H := { results := [], args := [] }

/-- 'roadbooklaw15.RrepTells': WHATEVER THE INPUT: true; the input reads as it did. -/
def rrepTellsSpec : ChangeSpec := { name := "rrepTells", fn := fun _ => fun
  | [d] => { results := [.lit (.bool true)], args := [d] }
  | _ => none }
def rrepTellsRow : OpenClaim := { program := "ytdmjffmgmmfkjaa", sum := "01d19ab9b1f43f86776b973f768f270924f03e647abcd117d75dd843cc0bbcdd", func := "roadbook/roadbooklaw15.RrepTells", spec := "rrepTells", inPlace := ["internal/abi.NoEscape", "internal/bytealg.MakeNoZero"], apart := false }
def RrepTellsSaid : Prop := rrepTellsRow.holds Try.pinned (OpenSpec.ofChange rrepTellsSpec)

/-- ITS FALSE NEIGHBOUR: 'it returns false'. Refute it at one input. -/
def rrepTellsWrong : ChangeSpec := { name := "rrepTells", fn := fun _ => fun
  | [d] => { results := [.lit (.bool false)], args := [d] }
  | _ => none }
def RrepTellsWrongFalsely : Prop := rrepTellsRow.holds Try.pinned (OpenSpec.ofChange rrepTellsWrong)

/-- 'roadbooklaw15.RrepGets': WHATEVER THE INPUT: true; the input reads as it did. -/
def rrepGetsSpec : ChangeSpec := { name := "rrepGets", fn := fun _ => fun
  | [d] => { results := [.lit (.bool true)], args := [d] }
  | _ => none }
def rrepGetsRow : OpenClaim := { program := "ytdmjffmgmmfkjaa", sum := "01d19ab9b1f43f86776b973f768f270924f03e647abcd117d75dd843cc0bbcdd", func := "roadbook/roadbooklaw15.RrepGets", spec := "rrepGets", inPlace := ["internal/abi.NoEscape", "internal/bytealg.MakeNoZero"], apart := false }
def RrepGetsSaid : Prop := rrepGetsRow.holds Try.pinned (OpenSpec.ofChange rrepGetsSpec)

/-- ITS FALSE NEIGHBOUR: 'it returns false'. Refute it at one input. -/
def rrepGetsWrong : ChangeSpec := { name := "rrepGets", fn := fun _ => fun
  | [d] => { results := [.lit (.bool false)], args := [d] }
  | _ => none }
def RrepGetsWrongFalsely : Prop := rrepGetsRow.holds Try.pinned (OpenSpec.ofChange rrepGetsWrong)

/-- 'roadbooklaw15.RrepBack': WHATEVER THE INPUT: true; the input reads as it did. -/
def rrepBackSpec : ChangeSpec := { name := "rrepBack", fn := fun _ => fun
  | [d1, d2] => { results := [.lit (.bool true)], args := [d1, d2] }
  | _ => none }
def rrepBackRow : OpenClaim := { program := "ytdmjffmgmmfkjaa", sum := "01d19ab9b1f43f86776b973f768f270924f03e647abcd117d75dd843cc0bbcdd", func := "roadbook/roadbooklaw15.RrepBack", spec := "rrepBack", inPlace := ["internal/abi.NoEscape", "internal/bytealg.MakeNoZero"], apart := false }
def RrepBackSaid : Prop := rrepBackRow.holds Try.pinned (OpenSpec.ofChange rrepBackSpec)

/-- ITS FALSE NEIGHBOUR: 'it returns false'. Refute it at one input. -/
def rrepBackWrong : ChangeSpec := { name := "rrepBack", fn := fun _ => fun
  | [d1, d2] => { results := [.lit (.bool false)], args := [d1, d2] }
  | _ => none }
def RrepBackWrongFalsely : Prop := rrepBackRow.holds Try.pinned (OpenSpec.ofChange rrepBackWrong)

/- THE SECOND FORM. 'bulk': how many values and letters a reading holds, each counted each time it is reached (what is shared counts as often as it is met; a slice's spare places count too). A statement '..UptoSaid' is the law's where the arguments, and the package variables that the reading takes, are together of bulk at most 1048576: NARROWER than '..Said'. Prove '..Said' where nothing that the law and all that it calls make is longer than what came in: it says more and counts as full. Else prove '..UptoSaid'. A law counts once. -/
mutual
def uptoBulk {H : Type} : DataW H → Nat
  | .lit (.string bytes) => bytes.length + 1
  | .lit _ => 1
  | .nil => 1
  | .ptr d => uptoBulk d + 1
  | .slice elems spare => uptoBulkAll elems + uptoBulkAll spare + 1
  | .agg parts => uptoBulkAll parts + 1
  | .iface _ d => uptoBulk d + 1
  | .map entries => uptoBulkEntries entries + 1
  | .held _ => 1
def uptoBulkAll {H : Type} : List (DataW H) → Nat
  | [] => 0
  | d :: r => uptoBulk d + uptoBulkAll r
def uptoBulkEntries {H : Type} : List (Lit × DataW H) → Nat
  | [] => 0
  | x :: r => uptoBulkEntry x + uptoBulkEntries r
def uptoBulkEntry {H : Type} : Lit × DataW H → Nat
  | (.string bytes, d) => bytes.length + uptoBulk d + 1
  | (_, d) => uptoBulk d + 1
 end
def uptoSmall : (H : Type) → List (DataW H) → Bool := fun _ ds => decide (uptoBulkAll ds ≤ 1048576)
def OpenSpec.upto (s : _root_.Go.ChangeSpec) : _root_.Go.OpenSpec := { _root_.Go.OpenSpec.ofChange s with cond := some uptoSmall }

/-- 'roadbooklaw15.RrepTells', WHERE WHAT IT READS IS OF BULK AT MOST 1048576: true; the input reads as it did. -/
def rrepTellsUptoRow : OpenClaim := { program := "ytdmjffmgmmfkjaa", sum := "01d19ab9b1f43f86776b973f768f270924f03e647abcd117d75dd843cc0bbcdd", func := "roadbook/roadbooklaw15.RrepTells", spec := "rrepTells", inPlace := ["internal/abi.NoEscape", "internal/bytealg.MakeNoZero"], apart := false, narrowed := true }
def RrepTellsUptoSaid : Prop := rrepTellsUptoRow.holds Try.pinned (OpenSpec.upto rrepTellsSpec)

/-- 'roadbooklaw15.RrepGets', WHERE WHAT IT READS IS OF BULK AT MOST 1048576: true; the input reads as it did. -/
def rrepGetsUptoRow : OpenClaim := { program := "ytdmjffmgmmfkjaa", sum := "01d19ab9b1f43f86776b973f768f270924f03e647abcd117d75dd843cc0bbcdd", func := "roadbook/roadbooklaw15.RrepGets", spec := "rrepGets", inPlace := ["internal/abi.NoEscape", "internal/bytealg.MakeNoZero"], apart := false, narrowed := true }
def RrepGetsUptoSaid : Prop := rrepGetsUptoRow.holds Try.pinned (OpenSpec.upto rrepGetsSpec)

/-- 'roadbooklaw15.RrepBack', WHERE WHAT IT READS IS OF BULK AT MOST 1048576: true; the input reads as it did. -/
def rrepBackUptoRow : OpenClaim := { program := "ytdmjffmgmmfkjaa", sum := "01d19ab9b1f43f86776b973f768f270924f03e647abcd117d75dd843cc0bbcdd", func := "roadbook/roadbooklaw15.RrepBack", spec := "rrepBack", inPlace := ["internal/abi.NoEscape", "internal/bytealg.MakeNoZero"], apart := false, narrowed := true }
def RrepBackUptoSaid : Prop := rrepBackUptoRow.holds Try.pinned (OpenSpec.upto rrepBackSpec)

end Rows
end Go.Proofs.Ytdmjffmgmmfkjaa
