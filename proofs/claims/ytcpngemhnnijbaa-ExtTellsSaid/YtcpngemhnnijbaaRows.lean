/-
  No cell of these rows narrows 'for every input' (looked for: loops, veiled, ifaces, maps, wideKeys, modest, calm, conditions, laid).
  DERIVED. THE GIVEN ROWS OF THIS SEAT. 4 by the template 'for every input the law returns true; each argument reads behind the call as it read before'; 0 by the template 'total and deterministic' (their statements: YtcpngemhnnijbaaTotals.lean).
  GIVEN WITH THE SEED: the statements are not yours to turn. If you find one false, say at which input.
  Laid BY PROGRAM, IN A SANDBOX (cutbox-rows.mjs): the forced cells as the released guide's own fill.sh prints them over the translation 748c068a3c45fb96… (all of the seat's roots in one cut). By AI agents, Wed Nov 11 2026. No macro, syntax, notation, axiom, sorry.
-/
import Derived.Test.YtcpngemhnnijbaaChecked
import GoSem.Claim
import GoSem.ClaimJoined
import GoSem.ClaimMapViews
import Derived.JoinedTies
import Derived.KernelRfl
namespace Go.Proofs.Ytcpngemhnnijbaa
/- THE CELL 'sum', in the pinned program and in every row, IS THE sha256 OF THE DUMP (.gsa) THAT YtcpngemhnnijbaaProg.lean LOADS. Nothing in Lean hashes anything: it is a label: what it is worth is what the hold of that sum in a sandbox is worth. -/
noncomputable def Try.pinned : Pinned := { name := "ytcpngemhnnijbaa", sum := "748c068a3c45fb964eac7f41305fa3c9c9a7301cabb7a929872dce82d0fc209c", checked := Try.checked }
namespace Rows
def none {H : Type} : Left H := { results := [], args := [] }

/-- 'roadbooklaw13.ExtTells': WHATEVER THE INPUT: true; the input reads as it did. -/
def extTellsSpec : ChangeSpec := { name := "extTells", fn := fun _ => fun
  | [d1, d2] => { results := [.lit (.bool true)], args := [d1, d2] }
  | _ => none }
def extTellsRow : OpenClaim := { program := "ytcpngemhnnijbaa", sum := "748c068a3c45fb964eac7f41305fa3c9c9a7301cabb7a929872dce82d0fc209c", func := "roadbook/roadbooklaw13.ExtTells", spec := "extTells", inPlace := ["internal/abi.NoEscape", "internal/bytealg.MakeNoZero"], apart := false }
def ExtTellsSaid : Prop := extTellsRow.holds Try.pinned (OpenSpec.ofChange extTellsSpec)

/-- ITS FALSE NEIGHBOUR: 'it returns false'. Refute it at one input. -/
def extTellsWrong : ChangeSpec := { name := "extTells", fn := fun _ => fun
  | [d1, d2] => { results := [.lit (.bool false)], args := [d1, d2] }
  | _ => none }
def ExtTellsWrongFalsely : Prop := extTellsRow.holds Try.pinned (OpenSpec.ofChange extTellsWrong)

/-- 'roadbooklaw13.ExtBack': WHATEVER THE INPUT: true; the input reads as it did. -/
def extBackSpec : ChangeSpec := { name := "extBack", fn := fun _ => fun
  | [d1, d2] => { results := [.lit (.bool true)], args := [d1, d2] }
  | _ => none }
def extBackRow : OpenClaim := { program := "ytcpngemhnnijbaa", sum := "748c068a3c45fb964eac7f41305fa3c9c9a7301cabb7a929872dce82d0fc209c", func := "roadbook/roadbooklaw13.ExtBack", spec := "extBack", inPlace := ["internal/abi.NoEscape", "internal/bytealg.MakeNoZero"], apart := false }
def ExtBackSaid : Prop := extBackRow.holds Try.pinned (OpenSpec.ofChange extBackSpec)

/-- ITS FALSE NEIGHBOUR: 'it returns false'. Refute it at one input. -/
def extBackWrong : ChangeSpec := { name := "extBack", fn := fun _ => fun
  | [d1, d2] => { results := [.lit (.bool false)], args := [d1, d2] }
  | _ => none }
def ExtBackWrongFalsely : Prop := extBackRow.holds Try.pinned (OpenSpec.ofChange extBackWrong)

/-- 'roadbooklaw13.ExtCut': WHATEVER THE INPUT: true; the input reads as it did. -/
def extCutSpec : ChangeSpec := { name := "extCut", fn := fun _ => fun
  | [d1, d2] => { results := [.lit (.bool true)], args := [d1, d2] }
  | _ => none }
def extCutRow : OpenClaim := { program := "ytcpngemhnnijbaa", sum := "748c068a3c45fb964eac7f41305fa3c9c9a7301cabb7a929872dce82d0fc209c", func := "roadbook/roadbooklaw13.ExtCut", spec := "extCut", inPlace := ["internal/abi.NoEscape", "internal/bytealg.MakeNoZero"], apart := false }
def ExtCutSaid : Prop := extCutRow.holds Try.pinned (OpenSpec.ofChange extCutSpec)

/-- ITS FALSE NEIGHBOUR: 'it returns false'. Refute it at one input. -/
def extCutWrong : ChangeSpec := { name := "extCut", fn := fun _ => fun
  | [d1, d2] => { results := [.lit (.bool false)], args := [d1, d2] }
  | _ => none }
def ExtCutWrongFalsely : Prop := extCutRow.holds Try.pinned (OpenSpec.ofChange extCutWrong)

/-- 'roadbooklaw13.ExtJoins': WHATEVER THE INPUT: true; the input reads as it did. -/
def extJoinsSpec : ChangeSpec := { name := "extJoins", fn := fun _ => fun
  | [d1, d2] => { results := [.lit (.bool true)], args := [d1, d2] }
  | _ => none }
def extJoinsRow : OpenClaim := { program := "ytcpngemhnnijbaa", sum := "748c068a3c45fb964eac7f41305fa3c9c9a7301cabb7a929872dce82d0fc209c", func := "roadbook/roadbooklaw13.ExtJoins", spec := "extJoins", apart := false }
def ExtJoinsSaid : Prop := extJoinsRow.holds Try.pinned (OpenSpec.ofChange extJoinsSpec)

/-- ITS FALSE NEIGHBOUR: 'it returns false'. Refute it at one input. -/
def extJoinsWrong : ChangeSpec := { name := "extJoins", fn := fun _ => fun
  | [d1, d2] => { results := [.lit (.bool false)], args := [d1, d2] }
  | _ => none }
def ExtJoinsWrongFalsely : Prop := extJoinsRow.holds Try.pinned (OpenSpec.ofChange extJoinsWrong)

/- THE SECOND FORM. 'bulk': how many values and letters a reading holds, each counted each time it is reached (what is shared counts as often as it is met; a slice's spare places count too). A statement '..UptoSaid' is the law's where the arguments, and the package variables that the reading takes, are together of bulk at most 1048576: NARROWER than '..Said'. Prove '..Said' where nothing that the law and all that it calls make is longer than what came in: it says more and counts as full. Else prove '..UptoSaid'. A law counts once. -/
mutual
def uptoBulk {H : Type} : DataW H → Nat
  | .lit (.string bytes) => bytes.length + 1
  | .lit _ => 1
  | .nil => 1
  | .ptr d => uptoBulk d + 1
  | .slice elems spare => uptoBulkAll elems + uptoBulkAll spare + 1
  | .agg parts => uptoBulkAll parts + 1
  | .iface _ d => uptoBulk d + 1
  | .map entries => uptoBulkEntries entries + 1
  | .held _ => 1
def uptoBulkAll {H : Type} : List (DataW H) → Nat
  | [] => 0
  | d :: r => uptoBulk d + uptoBulkAll r
def uptoBulkEntries {H : Type} : List (Lit × DataW H) → Nat
  | [] => 0
  | x :: r => uptoBulkEntry x + uptoBulkEntries r
def uptoBulkEntry {H : Type} : Lit × DataW H → Nat
  | (.string bytes, d) => bytes.length + uptoBulk d + 1
  | (_, d) => uptoBulk d + 1
 end
def uptoSmall : (H : Type) → List (DataW H) → Bool := fun _ ds => decide (uptoBulkAll ds ≤ 1048576)
def OpenSpec.upto (s : _root_.Go.ChangeSpec) : _root_.Go.OpenSpec := { _root_.Go.OpenSpec.ofChange s with cond := some uptoSmall }

/-- 'roadbooklaw13.ExtTells', WHERE WHAT IT READS IS OF BULK AT MOST 1048576: true; the input reads as it did. -/
def extTellsUptoRow : OpenClaim := { program := "ytcpngemhnnijbaa", sum := "748c068a3c45fb964eac7f41305fa3c9c9a7301cabb7a929872dce82d0fc209c", func := "roadbook/roadbooklaw13.ExtTells", spec := "extTells", inPlace := ["internal/abi.NoEscape", "internal/bytealg.MakeNoZero"], apart := false, narrowed := true }
def ExtTellsUptoSaid : Prop := extTellsUptoRow.holds Try.pinned (OpenSpec.upto extTellsSpec)

/-- 'roadbooklaw13.ExtBack', WHERE WHAT IT READS IS OF BULK AT MOST 1048576: true; the input reads as it did. -/
def extBackUptoRow : OpenClaim := { program := "ytcpngemhnnijbaa", sum := "748c068a3c45fb964eac7f41305fa3c9c9a7301cabb7a929872dce82d0fc209c", func := "roadbook/roadbooklaw13.ExtBack", spec := "extBack", inPlace := ["internal/abi.NoEscape", "internal/bytealg.MakeNoZero"], apart := false, narrowed := true }
def ExtBackUptoSaid : Prop := extBackUptoRow.holds Try.pinned (OpenSpec.upto extBackSpec)

/-- 'roadbooklaw13.ExtCut', WHERE WHAT IT READS IS OF BULK AT MOST 1048576: true; the input reads as it did. -/
def extCutUptoRow : OpenClaim := { program := "ytcpngemhnnijbaa", sum := "748c068a3c45fb964eac7f41305fa3c9c9a7301cabb7a929872dce82d0fc209c", func := "roadbook/roadbooklaw13.ExtCut", spec := "extCut", inPlace := ["internal/abi.NoEscape", "internal/bytealg.MakeNoZero"], apart := false, narrowed := true }
def ExtCutUptoSaid : Prop := extCutUptoRow.holds Try.pinned (OpenSpec.upto extCutSpec)

/-- 'roadbooklaw13.ExtJoins', WHERE WHAT IT READS IS OF BULK AT MOST 1048576: true; the input reads as it did. -/
def extJoinsUptoRow : OpenClaim := { program := "ytcpngemhnnijbaa", sum := "748c068a3c45fb964eac7f41305fa3c9c9a7301cabb7a929872dce82d0fc209c", func := "roadbook/roadbooklaw13.ExtJoins", spec := "extJoins", apart := false, narrowed := true }
def ExtJoinsUptoSaid : Prop := extJoinsUptoRow.holds Try.pinned (OpenSpec.upto extJoinsSpec)

end Rows
end Go.Proofs.Ytcpngemhnnijbaa
