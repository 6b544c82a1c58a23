/-
  What came in, opened: a TLV by value, two bytes by value. No conditions.
-/
import Derived.Test.YteecialdkfaejaaDoorTl
import Derived.Test.YteecialdkfaejaaDoorOpen
namespace Go.Proofs.YteecialdkfaejaaDoor.Open
open Go.ChangeShapes Go.WideShapes Go.ChangeAt Go.RowKit
open Go.Proofs.YteecialdkfaejaaDoor.Tl (cellsT)
set_option linter.unusedVariables false
set_option maxRecDepth 100000
set_option maxRecDepth 100000
section
variable {H : Type} {enc : TypeId × Value → H} {W : World}
theorem cellsTl : Tryd.prog.cellsOf 29 = 3 := by kernel_rfl
theorem open_tlv {fuel : Nat} {cs : List Value} {x : DataW H × List MemPlace} (h : DataW.trod enc Tryd.prog W 0 (fun _ => true) true fuel 29 cs = some x) :
    ∃ a d t, cs = (cellsT (a, (d, t))).toList ∧ d.size ≤ maxLen := by
  obtain ⟨hlen, n, go⟩ := each_field Tryd.underlying29 (by kernel_rfl) h
  rw [cellsTl] at hlen
  clear h
  match cs, hlen with
  | [c0, c1, c2], _ =>
    obtain ⟨y0, h0⟩ := go 0 _ rfl
    obtain ⟨k0, e0, _, _⟩ := DataW.trod_int Tryd.underlying3 (show DataW.trod enc Tryd.prog W 0 (fun _ => true) true n 3 [c0] = some y0 from h0)
    obtain rfl := (List.cons.inj e0).1
    obtain ⟨y1, h1⟩ := go 1 _ rfl
    obtain ⟨k1, e1, _, _⟩ := DataW.trod_int Tryd.underlying3 (show DataW.trod enc Tryd.prog W 0 (fun _ => true) true n 3 [c1] = some y1 from h1)
    obtain rfl := (List.cons.inj e1).1
    obtain ⟨y2, h2⟩ := go 2 _ rfl
    obtain ⟨k2, e2, _, z2⟩ := DataW.trod_string Tryd.underlying9 (show DataW.trod enc Tryd.prog W 0 (fun _ => true) true n 9 [c2] = some y2 from h2)
    obtain rfl := (List.cons.inj e2).1
    exact ⟨k1, k2, k0, rfl, z2⟩
theorem by_tlv {base : Nat} {v : Value} {d : DataW H} {p : List MemPlace} (hv : Value.okWide Tryd.prog W .any base 29 v) (h : DataW.Trod enc Tryd.prog W 0 (fun _ => true) true 29 v d p) :
    ∃ a d t, v = .agg (cellsT (a, (d, t))) ∧ d.size ≤ maxLen := by
  obtain ⟨cs, rfl, hsz⟩ := okWide_struct Tryd.underlying29 hv
  obtain ⟨fuel, hf⟩ := h
  obtain ⟨a, d, t, hm, hok⟩ := open_tlv hf
  have : cs = cellsT (a, (d, t)) := Array.ext' hm
  subst this
  exact ⟨a, d, t, rfl, hok⟩
end
end Go.Proofs.YteecialdkfaejaaDoor.Open
