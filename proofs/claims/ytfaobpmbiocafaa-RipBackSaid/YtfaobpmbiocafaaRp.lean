/-
  What a route of RIP is that may be, its entry, and what an entry's route is: definitions on values alone, and facts on them.
-/
import Derived.Test.YtfaobpmbiocafaaBare
import Derived.Test.YtfaobpmbiocafaaBa
import Derived.Test.YtfaobpmbiocafaaPlen
import Derived.Test.YtfaobpmbiocafaaPre
import Derived.Test.YtfaobpmbiocafaaAu
namespace Go.Proofs.Ytfaobpmbiocafaa.Rp
open Go.ChangeShapes Go.WideShapes Go.ChangeAt Go.RowKit
open Go.Proofs.Ytfaobpmbiocafaa.Ms
set_option linter.unusedVariables false
set_option maxRecDepth 100000

/-- Four bytes that are 0? -/
def isN (s : ByteArray) : Bool := s.toList == [0, 0, 0, 0]
def isCmd (n : Int) : Bool := n == 1 || n == 2
def isMet (n : Int) : Bool := decide (1 ≤ n) && decide (n ≤ 16)
def authB (m : M) : Bool := decide (m.auth.size = 0) || (decide (m.auth.size = 18) && m.ver == 2)
def headB (m : M) : Bool := isCmd m.cmd && (isCmd m.ver && authB m)
def allB (m : M) : Bool := m.cmd == 1 && (m.tag == 0 && (m.plen == 0 && (isN m.pfx && (isN m.next && m.metric == 16))))
def oneB (m : M) : Bool := m.tag == 0 && (m.plen == 32 && (decide (m.pfx.size = 4) && isN m.next))
def twoB (m : M) : Bool := Oct.fitsB m.tag 2 && (decide (m.pfx.size = 4) && (Pre.rightZ m.pfx m.plen && decide (m.next.size = 4)))
def routeB (m : M) : Bool := if m.family = 0 then allB m else if m.family = 2 then isMet m.metric && (if m.ver = 1 then oneB m else twoB m) else false
/-- May it be? -/
def rightB (m : M) : Bool := m.kind == 1 && (Bare.bare1 m && (headB m && routeB m))

theorem isN_iff (s : ByteArray) : isN s = true ↔ s = ⟨#[0, 0, 0, 0]⟩ := by
  unfold isN
  rw [beq_iff_eq, ByteArray.toList_eq]
  constructor
  · intro h; exact ByteArray.ext (Array.toList_inj.1 h)
  · rintro rfl; rfl
theorem isN_size {s : ByteArray} (h : isN s = true) : s.size = 4 := by rw [(isN_iff s).1 h]; rfl
end Go.Proofs.Ytfaobpmbiocafaa.Rp
