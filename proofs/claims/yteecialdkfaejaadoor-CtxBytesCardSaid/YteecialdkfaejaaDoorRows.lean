/-
  NARROWER THAN 'FOR EVERY INPUT', by the rows' own cells (each row's printed sentence says how): CtxFolds: laid · CtxBytes: laid · CtxFar: laid.
  DERIVED. THE GIVEN ROWS OF THIS SEAT. 3 by the template 'for every input the law returns true; each argument reads behind the call as it read before'; 0 by the template 'total and deterministic' (their statements: YteecialdkfaejaaDoorTotals.lean).
  GIVEN WITH THE SEED: the statements are not yours to turn. If you find one false, say at which input.
  Laid BY PROGRAM, IN A SANDBOX (cutbox-rows.mjs): the forced cells as the released guide's own fill.sh prints them over the translation 9d8fa7f5b8a3a253… (all of the seat's roots in one cut). By AI agents, Wed Nov 11 2026. No macro, syntax, notation, axiom, sorry.
-/
import Derived.Test.YteecialdkfaejaaDoorChecked
import GoSem.Claim
import GoSem.ClaimJoined
import GoSem.ClaimMapViews
import Derived.JoinedTies
import Derived.KernelRfl
namespace Go.Proofs.YteecialdkfaejaaDoor
/- THE CELL 'sum', in the pinned program and in every row, IS THE sha256 OF THE DUMP (.gsa) THAT YteecialdkfaejaaDoorProg.lean LOADS. Nothing in Lean hashes anything: it is a label: what it is worth is what the hold of that sum in a sandbox is worth. -/
noncomputable def Tryd.pinned : Pinned := { name := "yteecialdkfaejaadoor", sum := "9d8fa7f5b8a3a253893b6f1721449766cf3609d417d21da2a63edd30c24b79e6", checked := Tryd.checked }
namespace Rows
def none {H : Type} : Left H := { results := [], args := [] }

/- WHAT THE LISTED PACKAGE-LEVEL VARIABLES READ AS WHEN THE CALL BEGINS. Each datum BY PROGRAM (the guide's laid-datum.mjs) off the statement by which the dump's own 'gosem.cut.vars' lays the variable. In a bare row this is a premise. The card (YteecialdkfaejaaDoorCards.lean) ties it to the program's text. -/
def laid_roadbook_route_spans {H : Type} : DataW H := .agg [.agg [.lit (.int .i64 0), .lit (.int .i64 0)], .agg [.lit (.int .i64 0), .lit (.int .i64 32)], .agg [.lit (.int .i64 0), .lit (.int .i64 128)], .agg [.lit (.int .i64 64), .lit (.int .i64 128)]]
def laid_roadbook_ctx_sizes {H : Type} : DataW H := .agg [.lit (.int .i64 0), .lit (.int .i64 4), .lit (.int .i64 16), .lit (.int .i64 8)]

/-- 'roadbooklaw22.CtxFolds': WHATEVER THE INPUT: true; the input reads as it did. -/
def ctxFoldsSpec : ChangeSpec := { name := "ctxFolds", fn := fun _ => fun
  | [d] => { results := [.lit (.bool true)], args := [d] }
  | _ => none }
def ctxFoldsRow : OpenClaim := { program := "yteecialdkfaejaadoor", sum := "9d8fa7f5b8a3a253893b6f1721449766cf3609d417d21da2a63edd30c24b79e6", func := "roadbook/roadbooklaw22.CtxFolds", spec := "ctxFolds", named := ["roadbook/ctx.sizes", "roadbook/route.spans"], apart := false, laid := [("roadbook/route.spans", laid_roadbook_route_spans), ("roadbook/ctx.sizes", laid_roadbook_ctx_sizes)] }
def CtxFoldsSaid : Prop := ctxFoldsRow.holds Tryd.pinned (OpenSpec.ofChange ctxFoldsSpec)

/-- ITS FALSE NEIGHBOUR: 'it returns false'. Refute it at one input. -/
def ctxFoldsWrong : ChangeSpec := { name := "ctxFolds", fn := fun _ => fun
  | [d] => { results := [.lit (.bool false)], args := [d] }
  | _ => none }
def CtxFoldsWrongFalsely : Prop := ctxFoldsRow.holds Tryd.pinned (OpenSpec.ofChange ctxFoldsWrong)

/-- 'roadbooklaw22.CtxBytes': WHATEVER THE INPUT: true; the input reads as it did. -/
def ctxBytesSpec : ChangeSpec := { name := "ctxBytes", fn := fun _ => fun
  | [d1, d2, d3] => { results := [.lit (.bool true)], args := [d1, d2, d3] }
  | _ => none }
def ctxBytesRow : OpenClaim := { program := "yteecialdkfaejaadoor", sum := "9d8fa7f5b8a3a253893b6f1721449766cf3609d417d21da2a63edd30c24b79e6", func := "roadbook/roadbooklaw22.CtxBytes", spec := "ctxBytes", named := ["roadbook/ctx.sizes", "roadbook/route.spans"], apart := false, laid := [("roadbook/route.spans", laid_roadbook_route_spans), ("roadbook/ctx.sizes", laid_roadbook_ctx_sizes)] }
def CtxBytesSaid : Prop := ctxBytesRow.holds Tryd.pinned (OpenSpec.ofChange ctxBytesSpec)

/-- ITS FALSE NEIGHBOUR: 'it returns false'. Refute it at one input. -/
def ctxBytesWrong : ChangeSpec := { name := "ctxBytes", fn := fun _ => fun
  | [d1, d2, d3] => { results := [.lit (.bool false)], args := [d1, d2, d3] }
  | _ => none }
def CtxBytesWrongFalsely : Prop := ctxBytesRow.holds Tryd.pinned (OpenSpec.ofChange ctxBytesWrong)

/-- 'roadbooklaw22.CtxFar': WHATEVER THE INPUT: true; the input reads as it did. -/
def ctxFarSpec : ChangeSpec := { name := "ctxFar", fn := fun _ => fun
  | [d1, d2] => { results := [.lit (.bool true)], args := [d1, d2] }
  | _ => none }
def ctxFarRow : OpenClaim := { program := "yteecialdkfaejaadoor", sum := "9d8fa7f5b8a3a253893b6f1721449766cf3609d417d21da2a63edd30c24b79e6", func := "roadbook/roadbooklaw22.CtxFar", spec := "ctxFar", named := ["roadbook/ctx.sizes", "roadbook/route.spans"], apart := false, laid := [("roadbook/route.spans", laid_roadbook_route_spans), ("roadbook/ctx.sizes", laid_roadbook_ctx_sizes)] }
def CtxFarSaid : Prop := ctxFarRow.holds Tryd.pinned (OpenSpec.ofChange ctxFarSpec)

/-- ITS FALSE NEIGHBOUR: 'it returns false'. Refute it at one input. -/
def ctxFarWrong : ChangeSpec := { name := "ctxFar", fn := fun _ => fun
  | [d1, d2] => { results := [.lit (.bool false)], args := [d1, d2] }
  | _ => none }
def CtxFarWrongFalsely : Prop := ctxFarRow.holds Tryd.pinned (OpenSpec.ofChange ctxFarWrong)

/- THE SECOND FORM. 'bulk': how many values and letters a reading holds, each counted each time it is reached (what is shared counts as often as it is met; a slice's spare places count too). A statement '..UptoSaid' is the law's where the arguments, and the package variables that the reading takes, are together of bulk at most 1048576: NARROWER than '..Said'. Prove '..Said' where nothing that the law and all that it calls make is longer than what came in: it says more and counts as full. Else prove '..UptoSaid'. A law counts once. -/
mutual
def uptoBulk {H : Type} : DataW H → Nat
  | .lit (.string bytes) => bytes.length + 1
  | .lit _ => 1
  | .nil => 1
  | .ptr d => uptoBulk d + 1
  | .slice elems spare => uptoBulkAll elems + uptoBulkAll spare + 1
  | .agg parts => uptoBulkAll parts + 1
  | .iface _ d => uptoBulk d + 1
  | .map entries => uptoBulkEntries entries + 1
  | .held _ => 1
def uptoBulkAll {H : Type} : List (DataW H) → Nat
  | [] => 0
  | d :: r => uptoBulk d + uptoBulkAll r
def uptoBulkEntries {H : Type} : List (Lit × DataW H) → Nat
  | [] => 0
  | x :: r => uptoBulkEntry x + uptoBulkEntries r
def uptoBulkEntry {H : Type} : Lit × DataW H → Nat
  | (.string bytes, d) => bytes.length + uptoBulk d + 1
  | (_, d) => uptoBulk d + 1
 end
def uptoSmall : (H : Type) → List (DataW H) → Bool := fun _ ds => decide (uptoBulkAll ds ≤ 1048576)
def OpenSpec.upto (s : _root_.Go.ChangeSpec) : _root_.Go.OpenSpec := { _root_.Go.OpenSpec.ofChange s with cond := some uptoSmall }

/-- 'roadbooklaw22.CtxFolds', WHERE WHAT IT READS IS OF BULK AT MOST 1048576: true; the input reads as it did. -/
def ctxFoldsUptoRow : OpenClaim := { program := "yteecialdkfaejaadoor", sum := "9d8fa7f5b8a3a253893b6f1721449766cf3609d417d21da2a63edd30c24b79e6", func := "roadbook/roadbooklaw22.CtxFolds", spec := "ctxFolds", named := ["roadbook/ctx.sizes", "roadbook/route.spans"], apart := false, laid := [("roadbook/route.spans", laid_roadbook_route_spans), ("roadbook/ctx.sizes", laid_roadbook_ctx_sizes)], narrowed := true }
def CtxFoldsUptoSaid : Prop := ctxFoldsUptoRow.holds Tryd.pinned (OpenSpec.upto ctxFoldsSpec)

/-- 'roadbooklaw22.CtxBytes', WHERE WHAT IT READS IS OF BULK AT MOST 1048576: true; the input reads as it did. -/
def ctxBytesUptoRow : OpenClaim := { program := "yteecialdkfaejaadoor", sum := "9d8fa7f5b8a3a253893b6f1721449766cf3609d417d21da2a63edd30c24b79e6", func := "roadbook/roadbooklaw22.CtxBytes", spec := "ctxBytes", named := ["roadbook/ctx.sizes", "roadbook/route.spans"], apart := false, laid := [("roadbook/route.spans", laid_roadbook_route_spans), ("roadbook/ctx.sizes", laid_roadbook_ctx_sizes)], narrowed := true }
def CtxBytesUptoSaid : Prop := ctxBytesUptoRow.holds Tryd.pinned (OpenSpec.upto ctxBytesSpec)

/-- 'roadbooklaw22.CtxFar', WHERE WHAT IT READS IS OF BULK AT MOST 1048576: true; the input reads as it did. -/
def ctxFarUptoRow : OpenClaim := { program := "yteecialdkfaejaadoor", sum := "9d8fa7f5b8a3a253893b6f1721449766cf3609d417d21da2a63edd30c24b79e6", func := "roadbook/roadbooklaw22.CtxFar", spec := "ctxFar", named := ["roadbook/ctx.sizes", "roadbook/route.spans"], apart := false, laid := [("roadbook/route.spans", laid_roadbook_route_spans), ("roadbook/ctx.sizes", laid_roadbook_ctx_sizes)], narrowed := true }
def CtxFarUptoSaid : Prop := ctxFarUptoRow.holds Tryd.pinned (OpenSpec.upto ctxFarSpec)

end Rows
end Go.Proofs.YteecialdkfaejaaDoor
