/-
  No cell of these rows narrows 'for every input' (looked for: loops, veiled, ifaces, maps, wideKeys, modest, calm, conditions, laid).
  DERIVED. THE GIVEN ROWS OF THIS SEAT. 3 by the template 'for every input the law returns true; each argument reads behind the call as it read before'; 0 by the template 'total and deterministic' (their statements: YtflmhpimkfjdpaaTotals.lean).
  GIVEN WITH THE SEED: the statements are not yours to turn. If you find one false, say at which input.
  Laid BY PROGRAM, IN A SANDBOX (cutbox-rows.mjs): the forced cells as the released guide's own fill.sh prints them over the translation 6a098b7dc062b762… (all of the seat's roots in one cut). By AI agents, Wed Nov 11 2026. No macro, syntax, notation, axiom, sorry.
-/
import Derived.Test.YtflmhpimkfjdpaaChecked
import GoSem.Claim
import GoSem.ClaimJoined
import GoSem.ClaimMapViews
import Derived.JoinedTies
import Derived.KernelRfl
namespace Go.Proofs.Ytflmhpimkfjdpaa
/- THE CELL 'sum', in the pinned program and in every row, IS THE sha256 OF THE DUMP (.gsa) THAT YtflmhpimkfjdpaaProg.lean LOADS. Nothing in Lean hashes anything: it is a label: what it is worth is what the hold of that sum in a sandbox is worth. -/
noncomputable def Try.pinned : Pinned := { name := "ytflmhpimkfjdpaa", sum := "6a098b7dc062b7626164ebc0edd592644ccbbf5cee05263b6654c623ce43e558", checked := Try.checked }
namespace Rows
def none {H : Type} : Left H := { results := [], args := [] }

/-- 'roadbooklaw14.RreqTells': WHATEVER THE INPUT: true; the input reads as it did. -/
def rreqTellsSpec : ChangeSpec := { name := "rreqTells", fn := fun _ => fun
  | [d] => { results := [.lit (.bool true)], args := [d] }
  | _ => none }
def rreqTellsRow : OpenClaim := { program := "ytflmhpimkfjdpaa", sum := "6a098b7dc062b7626164ebc0edd592644ccbbf5cee05263b6654c623ce43e558", func := "roadbook/roadbooklaw14.RreqTells", spec := "rreqTells", inPlace := ["internal/abi.NoEscape", "internal/bytealg.MakeNoZero"], apart := false }
def RreqTellsSaid : Prop := rreqTellsRow.holds Try.pinned (OpenSpec.ofChange rreqTellsSpec)

/-- ITS FALSE NEIGHBOUR: 'it returns false'. Refute it at one input. -/
def rreqTellsWrong : ChangeSpec := { name := "rreqTells", fn := fun _ => fun
  | [d] => { results := [.lit (.bool false)], args := [d] }
  | _ => none }
def RreqTellsWrongFalsely : Prop := rreqTellsRow.holds Try.pinned (OpenSpec.ofChange rreqTellsWrong)

/-- 'roadbooklaw14.RreqGets': WHATEVER THE INPUT: true; the input reads as it did. -/
def rreqGetsSpec : ChangeSpec := { name := "rreqGets", fn := fun _ => fun
  | [d] => { results := [.lit (.bool true)], args := [d] }
  | _ => none }
def rreqGetsRow : OpenClaim := { program := "ytflmhpimkfjdpaa", sum := "6a098b7dc062b7626164ebc0edd592644ccbbf5cee05263b6654c623ce43e558", func := "roadbook/roadbooklaw14.RreqGets", spec := "rreqGets", inPlace := ["internal/abi.NoEscape", "internal/bytealg.MakeNoZero"], apart := false }
def RreqGetsSaid : Prop := rreqGetsRow.holds Try.pinned (OpenSpec.ofChange rreqGetsSpec)

/-- ITS FALSE NEIGHBOUR: 'it returns false'. Refute it at one input. -/
def rreqGetsWrong : ChangeSpec := { name := "rreqGets", fn := fun _ => fun
  | [d] => { results := [.lit (.bool false)], args := [d] }
  | _ => none }
def RreqGetsWrongFalsely : Prop := rreqGetsRow.holds Try.pinned (OpenSpec.ofChange rreqGetsWrong)

/-- 'roadbooklaw14.RreqBack': WHATEVER THE INPUT: true; the input reads as it did. -/
def rreqBackSpec : ChangeSpec := { name := "rreqBack", fn := fun _ => fun
  | [d1, d2] => { results := [.lit (.bool true)], args := [d1, d2] }
  | _ => none }
def rreqBackRow : OpenClaim := { program := "ytflmhpimkfjdpaa", sum := "6a098b7dc062b7626164ebc0edd592644ccbbf5cee05263b6654c623ce43e558", func := "roadbook/roadbooklaw14.RreqBack", spec := "rreqBack", inPlace := ["internal/abi.NoEscape", "internal/bytealg.MakeNoZero"], apart := false }
def RreqBackSaid : Prop := rreqBackRow.holds Try.pinned (OpenSpec.ofChange rreqBackSpec)

/-- ITS FALSE NEIGHBOUR: 'it returns false'. Refute it at one input. -/
def rreqBackWrong : ChangeSpec := { name := "rreqBack", fn := fun _ => fun
  | [d1, d2] => { results := [.lit (.bool false)], args := [d1, d2] }
  | _ => none }
def RreqBackWrongFalsely : Prop := rreqBackRow.holds Try.pinned (OpenSpec.ofChange rreqBackWrong)

/- THE SECOND FORM. 'bulk': how many values and letters a reading holds, each counted each time it is reached (what is shared counts as often as it is met; a slice's spare places count too). A statement '..UptoSaid' is the law's where the arguments, and the package variables that the reading takes, are together of bulk at most 1048576: NARROWER than '..Said'. Prove '..Said' where nothing that the law and all that it calls make is longer than what came in: it says more and counts as full. Else prove '..UptoSaid'. A law counts once. -/
mutual
def uptoBulk {H : Type} : DataW H → Nat
  | .lit (.string bytes) => bytes.length + 1
  | .lit _ => 1
  | .nil => 1
  | .ptr d => uptoBulk d + 1
  | .slice elems spare => uptoBulkAll elems + uptoBulkAll spare + 1
  | .agg parts => uptoBulkAll parts + 1
  | .iface _ d => uptoBulk d + 1
  | .map entries => uptoBulkEntries entries + 1
  | .held _ => 1
def uptoBulkAll {H : Type} : List (DataW H) → Nat
  | [] => 0
  | d :: r => uptoBulk d + uptoBulkAll r
def uptoBulkEntries {H : Type} : List (Lit × DataW H) → Nat
  | [] => 0
  | x :: r => uptoBulkEntry x + uptoBulkEntries r
def uptoBulkEntry {H : Type} : Lit × DataW H → Nat
  | (.string bytes, d) => bytes.length + uptoBulk d + 1
  | (_, d) => uptoBulk d + 1
 end
def uptoSmall : (H : Type) → List (DataW H) → Bool := fun _ ds => decide (uptoBulkAll ds ≤ 1048576)
def OpenSpec.upto (s : _root_.Go.ChangeSpec) : _root_.Go.OpenSpec := { _root_.Go.OpenSpec.ofChange s with cond := some uptoSmall }

/-- 'roadbooklaw14.RreqTells', WHERE WHAT IT READS IS OF BULK AT MOST 1048576: true; the input reads as it did. -/
def rreqTellsUptoRow : OpenClaim := { program := "ytflmhpimkfjdpaa", sum := "6a098b7dc062b7626164ebc0edd592644ccbbf5cee05263b6654c623ce43e558", func := "roadbook/roadbooklaw14.RreqTells", spec := "rreqTells", inPlace := ["internal/abi.NoEscape", "internal/bytealg.MakeNoZero"], apart := false, narrowed := true }
def RreqTellsUptoSaid : Prop := rreqTellsUptoRow.holds Try.pinned (OpenSpec.upto rreqTellsSpec)

/-- 'roadbooklaw14.RreqGets', WHERE WHAT IT READS IS OF BULK AT MOST 1048576: true; the input reads as it did. -/
def rreqGetsUptoRow : OpenClaim := { program := "ytflmhpimkfjdpaa", sum := "6a098b7dc062b7626164ebc0edd592644ccbbf5cee05263b6654c623ce43e558", func := "roadbook/roadbooklaw14.RreqGets", spec := "rreqGets", inPlace := ["internal/abi.NoEscape", "internal/bytealg.MakeNoZero"], apart := false, narrowed := true }
def RreqGetsUptoSaid : Prop := rreqGetsUptoRow.holds Try.pinned (OpenSpec.upto rreqGetsSpec)

/-- 'roadbooklaw14.RreqBack', WHERE WHAT IT READS IS OF BULK AT MOST 1048576: true; the input reads as it did. -/
def rreqBackUptoRow : OpenClaim := { program := "ytflmhpimkfjdpaa", sum := "6a098b7dc062b7626164ebc0edd592644ccbbf5cee05263b6654c623ce43e558", func := "roadbook/roadbooklaw14.RreqBack", spec := "rreqBack", inPlace := ["internal/abi.NoEscape", "internal/bytealg.MakeNoZero"], apart := false, narrowed := true }
def RreqBackUptoSaid : Prop := rreqBackUptoRow.holds Try.pinned (OpenSpec.upto rreqBackSpec)

end Rows
end Go.Proofs.Ytflmhpimkfjdpaa
