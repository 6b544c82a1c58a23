/-
  The document's Take: the Update that a TLV is. Condition: at most 100000 bytes.
  The document's example; the cells of a list of one message. Condition: the variables have what they are laid with.
-/
import Derived.Test.YtjhfpobjbijcpaaGreatDoorE01
import Derived.Test.YtjhfpobjbijcpaaGreatDoorE02
import Derived.Test.YtjhfpobjbijcpaaGreatDoorE03
import Derived.Test.YtjhfpobjbijcpaaGreatDoorE12
import Derived.Test.YtjhfpobjbijcpaaGreatDoorE13
import Derived.Test.YtjhfpobjbijcpaaGreatDoorE14
import Derived.Test.YtjhfpobjbijcpaaGreatDoorE15
import Derived.Test.YtjhfpobjbijcpaaGreatDoorE17
import Derived.Test.YtjhfpobjbijcpaaGreatDoorE23
namespace Go.Proofs.YtjhfpobjbijcpaaGreatDoor.Jt
open Go.ChangeShapes Go.WideShapes Go.ChangeAt Go.RowKit
open Go.Proofs.YtjhfpobjbijcpaaGreatDoor.Ms
open Go.Proofs.YtjhfpobjbijcpaaGreatDoor.Box
open Go.Proofs.YtjhfpobjbijcpaaGreatDoor.S1
open Go.Proofs.YtjhfpobjbijcpaaGreatDoor.Nu
open Go.Proofs.YtjhfpobjbijcpaaGreatDoor.J1
open Go.Proofs.YtjhfpobjbijcpaaGreatDoor.J2
open Go.Proofs.YtjhfpobjbijcpaaGreatDoor.An
open Go.Proofs.YtjhfpobjbijcpaaGreatDoor.F1 (bt bt_nn bt_lt)
open Go.Proofs.YtjhfpobjbijcpaaGreatDoor.F2 (idx sl_l)
open Go.Proofs.YtjhfpobjbijcpaaGreatDoor.Pre (leastN)
open Go.Proofs.YtjhfpobjbijcpaaGreatDoor.Bk (Bk wpList_builtK alloc_size loadVarK)
open Go.Proofs.YtjhfpobjbijcpaaGreatDoor.Hs
open Go.Proofs.YtjhfpobjbijcpaaGreatDoor.Hy
set_option linter.unusedVariables false
set_option maxRecDepth 100000
set_option maxRecDepth 100000
theorem cutG {T G : Prop} (t : T) (h : T → G) : G := h t
end Go.Proofs.YtjhfpobjbijcpaaGreatDoor.Jt
namespace Go.Proofs.YtjhfpobjbijcpaaGreatDoor.K9
open Go.ChangeShapes Go.WideShapes Go.ChangeAt Go.RowKit
open Go.Proofs.YtjhfpobjbijcpaaGreatDoor.Ms
open Go.Proofs.YtjhfpobjbijcpaaGreatDoor.Box
open Go.Proofs.YtjhfpobjbijcpaaGreatDoor.S1
open Go.Proofs.YtjhfpobjbijcpaaGreatDoor.J1
open Go.Proofs.YtjhfpobjbijcpaaGreatDoor.An
open Go.Proofs.YtjhfpobjbijcpaaGreatDoor.Tc
open Go.Proofs.YtjhfpobjbijcpaaGreatDoor.All
open Go.Proofs.YtjhfpobjbijcpaaGreatDoor.K1
open Go.Proofs.YtjhfpobjbijcpaaGreatDoor.Kb
open Go.Proofs.YtjhfpobjbijcpaaGreatDoor.K2
open Go.Proofs.YtjhfpobjbijcpaaGreatDoor.F1 (bt)
open Go.Proofs.YtjhfpobjbijcpaaGreatDoor.Bk (Bk alloc_size wpList_builtK run_loadK)
open Go.Proofs.YtjhfpobjbijcpaaGreatDoor.Hs
open Go.Proofs.YtjhfpobjbijcpaaGreatDoor.Or (st_yes)
set_option linter.unusedVariables false
set_option maxRecDepth 100000
set_option maxRecDepth 100000
theorem int_same (a : Int) : (a == a) = true := by simp
end Go.Proofs.YtjhfpobjbijcpaaGreatDoor.K9
