/-
  No cell of these rows narrows 'for every input' (looked for: loops, veiled, ifaces, maps, wideKeys, modest, calm, conditions, laid).
  DERIVED. THE GIVEN ROWS OF THIS SEAT. 4 by the template 'for every input the law returns true; each argument reads behind the call as it read before'; 0 by the template 'total and deterministic' (their statements: YtjhliffkhkgigaaTotals.lean).
  GIVEN WITH THE SEED: the statements are not yours to turn. If you find one false, say at which input.
  Laid BY PROGRAM, IN A SANDBOX (cutbox-rows.mjs): the forced cells as the released guide's own fill.sh prints them over the translation d3b388079dd2004f… (all of the seat's roots in one cut). By AI agents, Wed Nov 11 2026. No macro, syntax, notation, axiom, sorry.
-/
import Derived.Test.YtjhliffkhkgigaaChecked
import GoSem.Claim
import GoSem.ClaimJoined
import GoSem.ClaimMapViews
import Derived.JoinedTies
import Derived.KernelRfl
namespace Go.Proofs.Ytjhliffkhkgigaa
/- THE CELL 'sum', in the pinned program and in every row, IS THE sha256 OF THE DUMP (.gsa) THAT YtjhliffkhkgigaaProg.lean LOADS. Nothing in Lean hashes anything: it is a label: what it is worth is what the hold of that sum in a sandbox is worth. -/
noncomputable def Try.pinned : Pinned := { name := "ytjhliffkhkgigaa", sum := "d3b388079dd2004ff72f3514186f2f1a74ad3f573b142dee3c394cb73711b15a", checked := Try.checked }
namespace Rows
def none {H : Type} : Left H := { results := [], args := [] }

/-- 'roadbooklaw16.RerrTells': WHATEVER THE INPUT: true; the input reads as it did. -/
def rerrTellsSpec : ChangeSpec := { name := "rerrTells", fn := fun _ => fun
  | [d] => { results := [.lit (.bool true)], args := [d] }
  | _ => none }
def rerrTellsRow : OpenClaim := { program := "ytjhliffkhkgigaa", sum := "d3b388079dd2004ff72f3514186f2f1a74ad3f573b142dee3c394cb73711b15a", func := "roadbook/roadbooklaw16.RerrTells", spec := "rerrTells", inPlace := ["internal/abi.NoEscape", "internal/bytealg.MakeNoZero"], apart := false }
def RerrTellsSaid : Prop := rerrTellsRow.holds Try.pinned (OpenSpec.ofChange rerrTellsSpec)

/-- ITS FALSE NEIGHBOUR: 'it returns false'. Refute it at one input. -/
def rerrTellsWrong : ChangeSpec := { name := "rerrTells", fn := fun _ => fun
  | [d] => { results := [.lit (.bool false)], args := [d] }
  | _ => none }
def RerrTellsWrongFalsely : Prop := rerrTellsRow.holds Try.pinned (OpenSpec.ofChange rerrTellsWrong)

/-- 'roadbooklaw16.RerrGets': WHATEVER THE INPUT: true; the input reads as it did. -/
def rerrGetsSpec : ChangeSpec := { name := "rerrGets", fn := fun _ => fun
  | [d] => { results := [.lit (.bool true)], args := [d] }
  | _ => none }
def rerrGetsRow : OpenClaim := { program := "ytjhliffkhkgigaa", sum := "d3b388079dd2004ff72f3514186f2f1a74ad3f573b142dee3c394cb73711b15a", func := "roadbook/roadbooklaw16.RerrGets", spec := "rerrGets", inPlace := ["internal/abi.NoEscape", "internal/bytealg.MakeNoZero"], apart := false }
def RerrGetsSaid : Prop := rerrGetsRow.holds Try.pinned (OpenSpec.ofChange rerrGetsSpec)

/-- ITS FALSE NEIGHBOUR: 'it returns false'. Refute it at one input. -/
def rerrGetsWrong : ChangeSpec := { name := "rerrGets", fn := fun _ => fun
  | [d] => { results := [.lit (.bool false)], args := [d] }
  | _ => none }
def RerrGetsWrongFalsely : Prop := rerrGetsRow.holds Try.pinned (OpenSpec.ofChange rerrGetsWrong)

/-- 'roadbooklaw16.RerrBack': WHATEVER THE INPUT: true; the input reads as it did. -/
def rerrBackSpec : ChangeSpec := { name := "rerrBack", fn := fun _ => fun
  | [d1, d2] => { results := [.lit (.bool true)], args := [d1, d2] }
  | _ => none }
def rerrBackRow : OpenClaim := { program := "ytjhliffkhkgigaa", sum := "d3b388079dd2004ff72f3514186f2f1a74ad3f573b142dee3c394cb73711b15a", func := "roadbook/roadbooklaw16.RerrBack", spec := "rerrBack", inPlace := ["internal/abi.NoEscape", "internal/bytealg.MakeNoZero"], apart := false }
def RerrBackSaid : Prop := rerrBackRow.holds Try.pinned (OpenSpec.ofChange rerrBackSpec)

/-- ITS FALSE NEIGHBOUR: 'it returns false'. Refute it at one input. -/
def rerrBackWrong : ChangeSpec := { name := "rerrBack", fn := fun _ => fun
  | [d1, d2] => { results := [.lit (.bool false)], args := [d1, d2] }
  | _ => none }
def RerrBackWrongFalsely : Prop := rerrBackRow.holds Try.pinned (OpenSpec.ofChange rerrBackWrong)

/-- 'roadbooklaw16.RerrSizes': WHATEVER THE INPUT: true; the input reads as it did. -/
def rerrSizesSpec : ChangeSpec := { name := "rerrSizes", fn := fun _ => fun
  | [d] => { results := [.lit (.bool true)], args := [d] }
  | _ => none }
def rerrSizesRow : OpenClaim := { program := "ytjhliffkhkgigaa", sum := "d3b388079dd2004ff72f3514186f2f1a74ad3f573b142dee3c394cb73711b15a", func := "roadbook/roadbooklaw16.RerrSizes", spec := "rerrSizes", inPlace := ["internal/abi.NoEscape", "internal/bytealg.MakeNoZero"], apart := false }
def RerrSizesSaid : Prop := rerrSizesRow.holds Try.pinned (OpenSpec.ofChange rerrSizesSpec)

/-- ITS FALSE NEIGHBOUR: 'it returns false'. Refute it at one input. -/
def rerrSizesWrong : ChangeSpec := { name := "rerrSizes", fn := fun _ => fun
  | [d] => { results := [.lit (.bool false)], args := [d] }
  | _ => none }
def RerrSizesWrongFalsely : Prop := rerrSizesRow.holds Try.pinned (OpenSpec.ofChange rerrSizesWrong)

/- THE SECOND FORM. 'bulk': how many values and letters a reading holds, each counted each time it is reached (what is shared counts as often as it is met; a slice's spare places count too). A statement '..UptoSaid' is the law's where the arguments, and the package variables that the reading takes, are together of bulk at most 1048576: NARROWER than '..Said'. Prove '..Said' where nothing that the law and all that it calls make is longer than what came in: it says more and counts as full. Else prove '..UptoSaid'. A law counts once. -/
mutual
def uptoBulk {H : Type} : DataW H → Nat
  | .lit (.string bytes) => bytes.length + 1
  | .lit _ => 1
  | .nil => 1
  | .ptr d => uptoBulk d + 1
  | .slice elems spare => uptoBulkAll elems + uptoBulkAll spare + 1
  | .agg parts => uptoBulkAll parts + 1
  | .iface _ d => uptoBulk d + 1
  | .map entries => uptoBulkEntries entries + 1
  | .held _ => 1
def uptoBulkAll {H : Type} : List (DataW H) → Nat
  | [] => 0
  | d :: r => uptoBulk d + uptoBulkAll r
def uptoBulkEntries {H : Type} : List (Lit × DataW H) → Nat
  | [] => 0
  | x :: r => uptoBulkEntry x + uptoBulkEntries r
def uptoBulkEntry {H : Type} : Lit × DataW H → Nat
  | (.string bytes, d) => bytes.length + uptoBulk d + 1
  | (_, d) => uptoBulk d + 1
 end
def uptoSmall : (H : Type) → List (DataW H) → Bool := fun _ ds => decide (uptoBulkAll ds ≤ 1048576)
def OpenSpec.upto (s : _root_.Go.ChangeSpec) : _root_.Go.OpenSpec := { _root_.Go.OpenSpec.ofChange s with cond := some uptoSmall }

/-- 'roadbooklaw16.RerrTells', WHERE WHAT IT READS IS OF BULK AT MOST 1048576: true; the input reads as it did. -/
def rerrTellsUptoRow : OpenClaim := { program := "ytjhliffkhkgigaa", sum := "d3b388079dd2004ff72f3514186f2f1a74ad3f573b142dee3c394cb73711b15a", func := "roadbook/roadbooklaw16.RerrTells", spec := "rerrTells", inPlace := ["internal/abi.NoEscape", "internal/bytealg.MakeNoZero"], apart := false, narrowed := true }
def RerrTellsUptoSaid : Prop := rerrTellsUptoRow.holds Try.pinned (OpenSpec.upto rerrTellsSpec)

/-- 'roadbooklaw16.RerrGets', WHERE WHAT IT READS IS OF BULK AT MOST 1048576: true; the input reads as it did. -/
def rerrGetsUptoRow : OpenClaim := { program := "ytjhliffkhkgigaa", sum := "d3b388079dd2004ff72f3514186f2f1a74ad3f573b142dee3c394cb73711b15a", func := "roadbook/roadbooklaw16.RerrGets", spec := "rerrGets", inPlace := ["internal/abi.NoEscape", "internal/bytealg.MakeNoZero"], apart := false, narrowed := true }
def RerrGetsUptoSaid : Prop := rerrGetsUptoRow.holds Try.pinned (OpenSpec.upto rerrGetsSpec)

/-- 'roadbooklaw16.RerrBack', WHERE WHAT IT READS IS OF BULK AT MOST 1048576: true; the input reads as it did. -/
def rerrBackUptoRow : OpenClaim := { program := "ytjhliffkhkgigaa", sum := "d3b388079dd2004ff72f3514186f2f1a74ad3f573b142dee3c394cb73711b15a", func := "roadbook/roadbooklaw16.RerrBack", spec := "rerrBack", inPlace := ["internal/abi.NoEscape", "internal/bytealg.MakeNoZero"], apart := false, narrowed := true }
def RerrBackUptoSaid : Prop := rerrBackUptoRow.holds Try.pinned (OpenSpec.upto rerrBackSpec)

/-- 'roadbooklaw16.RerrSizes', WHERE WHAT IT READS IS OF BULK AT MOST 1048576: true; the input reads as it did. -/
def rerrSizesUptoRow : OpenClaim := { program := "ytjhliffkhkgigaa", sum := "d3b388079dd2004ff72f3514186f2f1a74ad3f573b142dee3c394cb73711b15a", func := "roadbook/roadbooklaw16.RerrSizes", spec := "rerrSizes", inPlace := ["internal/abi.NoEscape", "internal/bytealg.MakeNoZero"], apart := false, narrowed := true }
def RerrSizesUptoSaid : Prop := rerrSizesUptoRow.holds Try.pinned (OpenSpec.upto rerrSizesSpec)

end Rows
end Go.Proofs.Ytjhliffkhkgigaa
