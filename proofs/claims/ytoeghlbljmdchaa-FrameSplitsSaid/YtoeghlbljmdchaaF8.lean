/-
  What came in, opened: an ask by value is its four fields. No conditions.
-/
import Derived.Test.YtoeghlbljmdchaaF7
import Derived.Deep.Slices
import Derived.Deep.Fields
import Derived.ChangeSame
import Derived.Carry
namespace Go.Proofs.Ytoeghlbljmdchaa.Open
open Go.ChangeShapes Go.WideShapes Go.ChangeAt Go.RowKit Go.Deep
open Go.Proofs.Ytoeghlbljmdchaa.Bk
set_option linter.unusedVariables false

/-- An ask: the text, the place, the type, the data. -/
def askC (s : ByteArray) (b t : Int) (d : ByteArray) : Array Value := #[.string s, .int .u16 b, .int .i64 t, .string d]
theorem shA : Sh Try.prog 32 4 := ⟨_, Try.underlying32, by kernel_rfl⟩
section
variable {H : Type} {enc : TypeId × Value → H} {W : World}
/-- A struct whose fields take one cell each reads field by field: field j's reading is that of cell j. -/
theorem each_field {t : TypeId} {fds : Array Field} (ht : Try.prog.underlying t = some (.struct fds)) (hone : oneCellFields Try.prog fds = true) {fuel : Nat} {cs : List Value} {x : DataW H × List MemPlace}
    (h : DataW.trod enc Try.prog W 0 (fun _ => true) true fuel t cs = some x) :
    cs.length = Try.prog.cellsOf t ∧ ∃ n, ∀ (j : Nat) (f : Field), fds[j]? = some f → ∃ y, DataW.trod enc Try.prog W 0 (fun _ => true) true n f.type ((cs.drop j).take 1) = some y := by
  obtain ⟨xs, n, _, _, hlen, hxl, hf⟩ := DataW.trod_struct ht h
  refine ⟨hlen, n, fun j f hj => ?_⟩
  have h1 := hf j f hj
  rw [(hone_of hone j f hj).1, (hone_of hone j f hj).2] at h1
  have hjl : j < xs.length := by rw [hxl]; exact (Array.getElem?_eq_some_iff.1 hj).1
  exact ⟨xs[j], h1.trans (List.getElem?_eq_getElem hjl)⟩
theorem cellsA : Try.prog.cellsOf 32 = 4 := by kernel_rfl
theorem open_ask {fuel : Nat} {cs : List Value} {x : DataW H × List MemPlace} (h : DataW.trod enc Try.prog W 0 (fun _ => true) true fuel 32 cs = some x) :
    ∃ s b t d, cs = (askC s b t d).toList ∧ s.size ≤ maxLen ∧ 0 ≤ b ∧ b ≤ 65535 ∧ d.size ≤ maxLen := by
  obtain ⟨hlen, n, go⟩ := each_field Try.underlying32 (by kernel_rfl) h
  rw [cellsA] at hlen
  clear h
  match cs, hlen with
  | [c0, c1, c2, c3], _ =>
    obtain ⟨y0, h0⟩ := go 0 _ rfl
    obtain ⟨k0, e0, _, z0⟩ := DataW.trod_string Try.underlying9 (show DataW.trod enc Try.prog W 0 (fun _ => true) true n 9 [c0] = some y0 from h0)
    obtain rfl := (List.cons.inj e0).1
    obtain ⟨y1, h1⟩ := go 1 _ rfl
    obtain ⟨k1, e1, _, z1⟩ := DataW.trod_int Try.underlying30 (show DataW.trod enc Try.prog W 0 (fun _ => true) true n 30 [c1] = some y1 from h1)
    obtain rfl := (List.cons.inj e1).1
    obtain ⟨y2, h2⟩ := go 2 _ rfl
    obtain ⟨k2, e2, _, _⟩ := DataW.trod_int Try.underlying3 (show DataW.trod enc Try.prog W 0 (fun _ => true) true n 3 [c2] = some y2 from h2)
    obtain rfl := (List.cons.inj e2).1
    obtain ⟨y3, h3⟩ := go 3 _ rfl
    obtain ⟨k3, e3, _, z3⟩ := DataW.trod_string Try.underlying9 (show DataW.trod enc Try.prog W 0 (fun _ => true) true n 9 [c3] = some y3 from h3)
    obtain rfl := (List.cons.inj e3).1
    have hb : 0 ≤ k1 ∧ k1 ≤ 65535 := by
      have h : IntKind.u16.min ≤ k1 ∧ k1 ≤ IntKind.u16.max := by simpa [Lit.wf] using z1
      rwa [show IntKind.u16.min = 0 by decide, show IntKind.u16.max = 65535 by decide] at h
    exact ⟨k0, k1, k2, k3, rfl, z0, hb.1, hb.2, z3⟩

theorem by_ask {base : Nat} {v : Value} {d : DataW H} {p : List MemPlace} (hv : Value.okWide Try.prog W .any base 32 v) (h : DataW.Trod enc Try.prog W 0 (fun _ => true) true 32 v d p) :
    ∃ s b t d, v = .agg (askC s b t d) ∧ s.size ≤ maxLen ∧ 0 ≤ b ∧ b ≤ 65535 ∧ d.size ≤ maxLen := by
  obtain ⟨cs, rfl, hsz⟩ := okWide_struct Try.underlying32 hv
  obtain ⟨fuel, hf⟩ := h
  obtain ⟨s, b, t, d, hm, hok⟩ := open_ask hf
  have : cs = askC s b t d := Array.ext' hm
  subst this
  exact ⟨s, b, t, d, rfl, hok⟩
theorem laidOut : laidOutB Try.prog = true := by kernel_rfl
theorem again {t : TypeId} (hr : Try.prog.readableRec t = true) (hrow : t < Try.prog.types.size) {W' : World} {v : Value} {d : DataW H} {ps : List MemPlace}
    (h : DataW.Trod enc Try.prog W 0 (fun _ => true) true t v d ps) (hb : Below W.heap.size W W') (hlt : ∀ x ∈ ps, x.block < W.heap.size) :
    DataW.Trod enc Try.prog W' 0 (fun b => decide (b < W.heap.size)) true t v d ps := Below.trod laidOut hr hrow h hb hlt
end
end Go.Proofs.Ytoeghlbljmdchaa.Open
