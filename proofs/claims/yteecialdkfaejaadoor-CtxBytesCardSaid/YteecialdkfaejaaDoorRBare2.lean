/-
  Whether a message is bare: the document's answer, kinds 4 5 7 8 9. Condition: lists of at most 2^20 elements.
-/
import Derived.Test.YteecialdkfaejaaDoorP8
namespace Go.Proofs.YteecialdkfaejaaDoor.RBare
open Go.ChangeShapes Go.WideShapes Go.ChangeAt Go.RowKit
open Go.Proofs.YteecialdkfaejaaDoor.Ms
open Go.Proofs.YteecialdkfaejaaDoor.Box
open Go.Proofs.YteecialdkfaejaaDoor.Same
open Go.Proofs.YteecialdkfaejaaDoor.SameP
open Go.Proofs.YteecialdkfaejaaDoor.Hs
open Go.Proofs.YteecialdkfaejaaDoor.Or
open Go.Proofs.YteecialdkfaejaaDoor.RSame
open Go.Proofs.YteecialdkfaejaaDoor.Own
set_option linter.unusedVariables false
set_option maxRecDepth 100000

end Go.Proofs.YteecialdkfaejaaDoor.RBare
