/-
  The program's Get: the message that a TLV says. Conditions: a type from 2 to 5, at most 100000 bytes; the variable has what it is laid with.
-/
import Derived.Test.YtjhfpobjbijcpaaGreatDoorB01
import Derived.Test.YtjhfpobjbijcpaaGreatDoorB04
import Derived.Test.YtjhfpobjbijcpaaGreatDoorB16
import Derived.Test.YtjhfpobjbijcpaaGreatDoorB18
import Derived.Test.YtjhfpobjbijcpaaGreatDoorB19
import Derived.Test.YtjhfpobjbijcpaaGreatDoorB28
import Derived.Test.YtjhfpobjbijcpaaGreatDoorB34
namespace Go.Proofs.YtjhfpobjbijcpaaGreatDoor.G6
open Go.ChangeShapes Go.WideShapes Go.ChangeAt Go.RowKit
open Go.Proofs.YtjhfpobjbijcpaaGreatDoor.Ms
open Go.Proofs.YtjhfpobjbijcpaaGreatDoor.Box
open Go.Proofs.YtjhfpobjbijcpaaGreatDoor.S1
open Go.Proofs.YtjhfpobjbijcpaaGreatDoor.S5 (AnsS)
open Go.Proofs.YtjhfpobjbijcpaaGreatDoor.G1
open Go.Proofs.YtjhfpobjbijcpaaGreatDoor.An
open Go.Proofs.YtjhfpobjbijcpaaGreatDoor.Tc
open Go.Proofs.YtjhfpobjbijcpaaGreatDoor.Tl (cellsT)
open Go.Proofs.YtjhfpobjbijcpaaGreatDoor.Bk (Bk wpList_builtK alloc_size)
open Go.Proofs.YtjhfpobjbijcpaaGreatDoor.Hs
set_option linter.unusedVariables false
set_option maxRecDepth 100000
set_option maxRecDepth 100000
theorem lst_cell {B : Nat} {w : World} {v u : Value} {l : List El} {p : Addr} (h : Sx.Lst B w v l) (hg : p.block < B) : Sx.Lst B (w.setCell p u) v l := by
  refine ⟨h.1, ?_⟩
  rcases h.2 with h | ⟨k, cap, cur, a, b, c, d⟩
  · exact .inl h
  · exact .inr ⟨k, cap, cur, a, b, (heap_setCell_other w p k u (by omega)).trans c, d⟩
end Go.Proofs.YtjhfpobjbijcpaaGreatDoor.G6
