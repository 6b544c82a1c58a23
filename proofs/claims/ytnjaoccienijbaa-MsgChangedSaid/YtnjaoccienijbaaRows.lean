/-
  No cell of these rows narrows 'for every input' (looked for: loops, veiled, ifaces, maps, wideKeys, modest, calm, conditions, laid).
  DERIVED. THE GIVEN ROWS OF THIS SEAT. 3 by the template 'for every input the law returns true; each argument reads behind the call as it read before'; 0 by the template 'total and deterministic' (their statements: YtnjaoccienijbaaTotals.lean).
  GIVEN WITH THE SEED: the statements are not yours to turn. If you find one false, say at which input.
  Laid BY PROGRAM, IN A SANDBOX (cutbox-rows.mjs): the forced cells as the released guide's own fill.sh prints them over the translation 80fc2654f95709e8… (all of the seat's roots in one cut). By AI agents, Wed Nov 11 2026. No macro, syntax, notation, axiom, sorry.
-/
import Derived.Test.YtnjaoccienijbaaChecked
import GoSem.Claim
import GoSem.ClaimJoined
import GoSem.ClaimMapViews
import Derived.JoinedTies
import Derived.KernelRfl
namespace Go.Proofs.Ytnjaoccienijbaa
/- THE CELL 'sum', in the pinned program and in every row, IS THE sha256 OF THE DUMP (.gsa) THAT YtnjaoccienijbaaProg.lean LOADS. Nothing in Lean hashes anything: it is a label: what it is worth is what the hold of that sum in a sandbox is worth. -/
noncomputable def Try.pinned : Pinned := { name := "ytnjaoccienijbaa", sum := "80fc2654f95709e804fce9aa995a78cc53e67f2d9502ebe6f4c77e6843c19191", checked := Try.checked }
namespace Rows
def none {H : Type} : Left H := { results := [], args := [] }

/-- 'roadbooklaw07.MsgTells': WHATEVER THE INPUT: true; the input reads as it did. -/
def msgTellsSpec : ChangeSpec := { name := "msgTells", fn := fun _ => fun
  | [d1, d2, d3] => { results := [.lit (.bool true)], args := [d1, d2, d3] }
  | _ => none }
def msgTellsRow : OpenClaim := { program := "ytnjaoccienijbaa", sum := "80fc2654f95709e804fce9aa995a78cc53e67f2d9502ebe6f4c77e6843c19191", func := "roadbook/roadbooklaw07.MsgTells", spec := "msgTells", apart := false }
def MsgTellsSaid : Prop := msgTellsRow.holds Try.pinned (OpenSpec.ofChange msgTellsSpec)

/-- ITS FALSE NEIGHBOUR: 'it returns false'. Refute it at one input. -/
def msgTellsWrong : ChangeSpec := { name := "msgTells", fn := fun _ => fun
  | [d1, d2, d3] => { results := [.lit (.bool false)], args := [d1, d2, d3] }
  | _ => none }
def MsgTellsWrongFalsely : Prop := msgTellsRow.holds Try.pinned (OpenSpec.ofChange msgTellsWrong)

/-- 'roadbooklaw07.MsgLists': WHATEVER THE INPUT: true; the input reads as it did. -/
def msgListsSpec : ChangeSpec := { name := "msgLists", fn := fun _ => fun
  | [d1, d2] => { results := [.lit (.bool true)], args := [d1, d2] }
  | _ => none }
def msgListsRow : OpenClaim := { program := "ytnjaoccienijbaa", sum := "80fc2654f95709e804fce9aa995a78cc53e67f2d9502ebe6f4c77e6843c19191", func := "roadbook/roadbooklaw07.MsgLists", spec := "msgLists", unfollowed := true, recurses := true, apart := false }
def MsgListsSaid : Prop := msgListsRow.holds Try.pinned (OpenSpec.ofChange msgListsSpec)

/-- ITS FALSE NEIGHBOUR: 'it returns false'. Refute it at one input. -/
def msgListsWrong : ChangeSpec := { name := "msgLists", fn := fun _ => fun
  | [d1, d2] => { results := [.lit (.bool false)], args := [d1, d2] }
  | _ => none }
def MsgListsWrongFalsely : Prop := msgListsRow.holds Try.pinned (OpenSpec.ofChange msgListsWrong)

/-- 'roadbooklaw07.MsgChanged': WHATEVER THE INPUT: true; the input reads as it did. -/
def msgChangedSpec : ChangeSpec := { name := "msgChanged", fn := fun _ => fun
  | [d1, d2] => { results := [.lit (.bool true)], args := [d1, d2] }
  | _ => none }
def msgChangedRow : OpenClaim := { program := "ytnjaoccienijbaa", sum := "80fc2654f95709e804fce9aa995a78cc53e67f2d9502ebe6f4c77e6843c19191", func := "roadbook/roadbooklaw07.MsgChanged", spec := "msgChanged", apart := false }
def MsgChangedSaid : Prop := msgChangedRow.holds Try.pinned (OpenSpec.ofChange msgChangedSpec)

/-- ITS FALSE NEIGHBOUR: 'it returns false'. Refute it at one input. -/
def msgChangedWrong : ChangeSpec := { name := "msgChanged", fn := fun _ => fun
  | [d1, d2] => { results := [.lit (.bool false)], args := [d1, d2] }
  | _ => none }
def MsgChangedWrongFalsely : Prop := msgChangedRow.holds Try.pinned (OpenSpec.ofChange msgChangedWrong)

/- THE SECOND FORM. 'bulk': how many values and letters a reading holds, each counted each time it is reached (what is shared counts as often as it is met; a slice's spare places count too). A statement '..UptoSaid' is the law's where the arguments, and the package variables that the reading takes, are together of bulk at most 1048576: NARROWER than '..Said'. Prove '..Said' where nothing that the law and all that it calls make is longer than what came in: it says more and counts as full. Else prove '..UptoSaid'. A law counts once. -/
mutual
def uptoBulk {H : Type} : DataW H → Nat
  | .lit (.string bytes) => bytes.length + 1
  | .lit _ => 1
  | .nil => 1
  | .ptr d => uptoBulk d + 1
  | .slice elems spare => uptoBulkAll elems + uptoBulkAll spare + 1
  | .agg parts => uptoBulkAll parts + 1
  | .iface _ d => uptoBulk d + 1
  | .map entries => uptoBulkEntries entries + 1
  | .held _ => 1
def uptoBulkAll {H : Type} : List (DataW H) → Nat
  | [] => 0
  | d :: r => uptoBulk d + uptoBulkAll r
def uptoBulkEntries {H : Type} : List (Lit × DataW H) → Nat
  | [] => 0
  | x :: r => uptoBulkEntry x + uptoBulkEntries r
def uptoBulkEntry {H : Type} : Lit × DataW H → Nat
  | (.string bytes, d) => bytes.length + uptoBulk d + 1
  | (_, d) => uptoBulk d + 1
 end
def uptoSmall : (H : Type) → List (DataW H) → Bool := fun _ ds => decide (uptoBulkAll ds ≤ 1048576)
def OpenSpec.upto (s : _root_.Go.ChangeSpec) : _root_.Go.OpenSpec := { _root_.Go.OpenSpec.ofChange s with cond := some uptoSmall }

/-- 'roadbooklaw07.MsgTells', WHERE WHAT IT READS IS OF BULK AT MOST 1048576: true; the input reads as it did. -/
def msgTellsUptoRow : OpenClaim := { program := "ytnjaoccienijbaa", sum := "80fc2654f95709e804fce9aa995a78cc53e67f2d9502ebe6f4c77e6843c19191", func := "roadbook/roadbooklaw07.MsgTells", spec := "msgTells", apart := false, narrowed := true }
def MsgTellsUptoSaid : Prop := msgTellsUptoRow.holds Try.pinned (OpenSpec.upto msgTellsSpec)

/-- 'roadbooklaw07.MsgLists', WHERE WHAT IT READS IS OF BULK AT MOST 1048576: true; the input reads as it did. -/
def msgListsUptoRow : OpenClaim := { program := "ytnjaoccienijbaa", sum := "80fc2654f95709e804fce9aa995a78cc53e67f2d9502ebe6f4c77e6843c19191", func := "roadbook/roadbooklaw07.MsgLists", spec := "msgLists", unfollowed := true, recurses := true, apart := false, narrowed := true }
def MsgListsUptoSaid : Prop := msgListsUptoRow.holds Try.pinned (OpenSpec.upto msgListsSpec)

/-- 'roadbooklaw07.MsgChanged', WHERE WHAT IT READS IS OF BULK AT MOST 1048576: true; the input reads as it did. -/
def msgChangedUptoRow : OpenClaim := { program := "ytnjaoccienijbaa", sum := "80fc2654f95709e804fce9aa995a78cc53e67f2d9502ebe6f4c77e6843c19191", func := "roadbook/roadbooklaw07.MsgChanged", spec := "msgChanged", apart := false, narrowed := true }
def MsgChangedUptoSaid : Prop := msgChangedUptoRow.holds Try.pinned (OpenSpec.upto msgChangedSpec)

end Rows
end Go.Proofs.Ytnjaoccienijbaa
