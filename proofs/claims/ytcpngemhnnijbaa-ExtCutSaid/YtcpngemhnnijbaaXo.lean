/-
  What came in, opened: a list of Subs.
-/
import Derived.Test.YtcpngemhnnijbaaXa
import Derived.Test.YtcpngemhnnijbaaOpen
namespace Go.Proofs.Ytcpngemhnnijbaa.Xo
open Go.ChangeShapes Go.WideShapes Go.ChangeAt Go.RowKit Go.Deep
open Go.Proofs.Ytcpngemhnnijbaa.Ms
open Go.Proofs.Ytcpngemhnnijbaa.Open
set_option linter.unusedVariables false
set_option maxRecDepth 100000
section
variable {H : Type} {enc : TypeId × Value → H} {W : World}
theorem by_subs {base : Nat} {v : Value} {d : DataW H} {p : List MemPlace} (hv : Value.okWide Try.prog W .any base 22 v) (h : DataW.Trod enc Try.prog W 0 (fun _ => true) true 22 v d p) :
    ∃ (a : Option Addr) (l : List El) (c : Nat), v = .slice a l.length c ∧ SRow W a l ∧ l.length ≤ 9223372036854775807 := by
  obtain ⟨fuel, hf⟩ := h
  have hvc := okWide_slice Try.underlying22 hv
  obtain ⟨va, vn, vc, rfl⟩ := hvc
  obtain ⟨a, l, c, hcs, hr, hn⟩ := open_subs hf
  simp [Value.cells] at hcs
  obtain ⟨rfl, rfl, rfl⟩ := hcs
  exact ⟨va, l, vc, rfl, hr, hn⟩
end
end Go.Proofs.Ytcpngemhnnijbaa.Xo
