/-
  What came in, opened: a TLV by value, two bytes by value. No conditions.
-/
import Derived.Test.YtkhdllhlhpkekaaDoorTl
import Derived.Test.YtkhdllhlhpkekaaDoorOpen
namespace Go.Proofs.YtkhdllhlhpkekaaDoor.Open
open Go.ChangeShapes Go.WideShapes Go.ChangeAt Go.RowKit
open Go.Proofs.YtkhdllhlhpkekaaDoor.Tl (cellsT)
set_option linter.unusedVariables false
set_option maxRecDepth 100000
section
variable {H : Type} {enc : TypeId × Value → H} {W : World}
theorem cellsTl : Tryd.prog.cellsOf 35 = 3 := by kernel_rfl
theorem open_tlv {fuel : Nat} {cs : List Value} {x : DataW H × List MemPlace} (h : DataW.trod enc Tryd.prog W 0 (fun _ => true) true fuel 35 cs = some x) :
    ∃ a d t, cs = (cellsT (a, (d, t))).toList ∧ d.size ≤ maxLen := by
  obtain ⟨hlen, n, go⟩ := each_field Tryd.underlying35 (by kernel_rfl) h
  rw [cellsTl] at hlen
  clear h
  match cs, hlen with
  | [c0, c1, c2], _ =>
    obtain ⟨y0, h0⟩ := go 0 _ rfl
    obtain ⟨k0, e0, _, _⟩ := DataW.trod_int Tryd.underlying3 (show DataW.trod enc Tryd.prog W 0 (fun _ => true) true n 3 [c0] = some y0 from h0)
    obtain rfl := (List.cons.inj e0).1
    obtain ⟨y1, h1⟩ := go 1 _ rfl
    obtain ⟨k1, e1, _, _⟩ := DataW.trod_int Tryd.underlying3 (show DataW.trod enc Tryd.prog W 0 (fun _ => true) true n 3 [c1] = some y1 from h1)
    obtain rfl := (List.cons.inj e1).1
    obtain ⟨y2, h2⟩ := go 2 _ rfl
    obtain ⟨k2, e2, _, z2⟩ := DataW.trod_string Tryd.underlying9 (show DataW.trod enc Tryd.prog W 0 (fun _ => true) true n 9 [c2] = some y2 from h2)
    obtain rfl := (List.cons.inj e2).1
    exact ⟨k1, k2, k0, rfl, z2⟩
theorem by_tlv {base : Nat} {v : Value} {d : DataW H} {p : List MemPlace} (hv : Value.okWide Tryd.prog W .any base 35 v) (h : DataW.Trod enc Tryd.prog W 0 (fun _ => true) true 35 v d p) :
    ∃ a d t, v = .agg (cellsT (a, (d, t))) ∧ d.size ≤ maxLen := by
  obtain ⟨cs, rfl, hsz⟩ := okWide_struct Tryd.underlying35 hv
  obtain ⟨fuel, hf⟩ := h
  obtain ⟨a, d, t, hm, hok⟩ := open_tlv hf
  have : cs = cellsT (a, (d, t)) := Array.ext' hm
  subst this
  exact ⟨a, d, t, rfl, hok⟩
theorem by_two {base : Nat} {v : Value} {d : DataW H} {p : List MemPlace} (hv : Value.okWide Tryd.prog W .any base 51 v) (h : DataW.Trod enc Tryd.prog W 0 (fun _ => true) true 51 v d p) :
    ∃ t u : Int, v = .agg #[.int .u8 t, .int .u8 u] ∧ 0 ≤ t ∧ t ≤ 255 ∧ 0 ≤ u ∧ u ≤ 255 := by
  simp only [Value.okWide, Tryd.underlying51] at hv
  obtain ⟨cs, rfl, hsz, _⟩ := hv
  obtain ⟨fuel, hf⟩ := h
  obtain ⟨xs, m, _, _, hlen, hxl, hi⟩ := DataW.trod_array Tryd.underlying51 hf
  have hc : Tryd.prog.cellsOf 5 = 1 := by kernel_rfl
  have h0 := hi 0 (by decide)
  have h1 := hi 1 (by decide)
  rw [hc] at h0 h1
  rw [List.getElem?_eq_getElem (by omega)] at h0 h1
  have rng : ∀ {k : Int}, (Lit.int .u8 k).wf = true → 0 ≤ k ∧ k ≤ 255 := fun {k} z => by
    have h : IntKind.u8.min ≤ k ∧ k ≤ IntKind.u8.max := by simpa [Lit.wf] using z
    rwa [show IntKind.u8.min = 0 by decide, show IntKind.u8.max = 255 by decide] at h
  obtain ⟨l⟩ := cs
  match l, hsz.trans (show Tryd.prog.cellsOf 51 = 2 by kernel_rfl) with
  | [c0, c1], _ =>
    obtain ⟨t, e0, _, z0⟩ := DataW.trod_int Tryd.underlying5 (show DataW.trod enc Tryd.prog W 0 (fun _ => true) true m 5 [c0] = some _ from h0)
    obtain ⟨u, e1, _, z1⟩ := DataW.trod_int Tryd.underlying5 (show DataW.trod enc Tryd.prog W 0 (fun _ => true) true m 5 [c1] = some _ from h1)
    obtain rfl := (List.cons.inj e0).1
    obtain rfl := (List.cons.inj e1).1
    exact ⟨t, u, rfl, (rng z0).1, (rng z0).2, (rng z1).1, (rng z1).2⟩
end
end Go.Proofs.YtkhdllhlhpkekaaDoor.Open
