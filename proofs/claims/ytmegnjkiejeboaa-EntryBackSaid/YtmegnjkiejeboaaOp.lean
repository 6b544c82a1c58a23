/-
  What came in, opened: an entry by value is its six fields. What both sides answer of a text.
-/
import Derived.Test.YtmegnjkiejeboaaAw
import Derived.Deep.Slices
import Derived.Deep.Fields
import Derived.ChangeSame
import Derived.Carry
namespace Go.Proofs.Ytmegnjkiejeboaa.Open
open Go.ChangeShapes Go.WideShapes Go.ChangeAt Go.RowKit Go.Deep
open Go.Proofs.Ytmegnjkiejeboaa.Bk
open Go.Proofs.Ytmegnjkiejeboaa.Ent
set_option linter.unusedVariables false

section
variable {H : Type} {enc : TypeId × Value → H} {W : World}
/-- A struct whose fields take one cell each reads field by field: field j's reading is that of cell j. -/
theorem each_field {t : TypeId} {fds : Array Field} (ht : Try.prog.underlying t = some (.struct fds)) (hone : oneCellFields Try.prog fds = true) {fuel : Nat} {cs : List Value} {x : DataW H × List MemPlace}
    (h : DataW.trod enc Try.prog W 0 (fun _ => true) true fuel t cs = some x) :
    cs.length = Try.prog.cellsOf t ∧ ∃ n, ∀ (j : Nat) (f : Field), fds[j]? = some f → ∃ y, DataW.trod enc Try.prog W 0 (fun _ => true) true n f.type ((cs.drop j).take 1) = some y := by
  obtain ⟨xs, n, _, _, hlen, hxl, hf⟩ := DataW.trod_struct ht h
  refine ⟨hlen, n, fun j f hj => ?_⟩
  have h1 := hf j f hj
  rw [(hone_of hone j f hj).1, (hone_of hone j f hj).2] at h1
  have hjl : j < xs.length := by rw [hxl]; exact (Array.getElem?_eq_some_iff.1 hj).1
  exact ⟨xs[j], h1.trans (List.getElem?_eq_getElem hjl)⟩
theorem cellsE : Try.prog.cellsOf 23 = 6 := by kernel_rfl

theorem open_entry {fuel : Nat} {cs : List Value} {x : DataW H × List MemPlace} (h : DataW.trod enc Try.prog W 0 (fun _ => true) true fuel 23 cs = some x) :
    ∃ e : E, cs = e.cells.toList ∧ OkE e := by
  obtain ⟨hlen, n, go⟩ := each_field Try.underlying23 (by kernel_rfl) h
  rw [cellsE] at hlen
  clear h
  match cs, hlen with
  | [c0, c1, c2, c3, c4, c5], _ =>
    obtain ⟨y0, h0⟩ := go 0 _ rfl
    obtain ⟨k0, e0, _, _⟩ := DataW.trod_int Try.underlying3 (show DataW.trod enc Try.prog W 0 (fun _ => true) true n 3 [c0] = some y0 from h0)
    obtain rfl := (List.cons.inj e0).1
    obtain ⟨y1, h1⟩ := go 1 _ rfl
    obtain ⟨k1, e1, _, _⟩ := DataW.trod_int Try.underlying3 (show DataW.trod enc Try.prog W 0 (fun _ => true) true n 3 [c1] = some y1 from h1)
    obtain rfl := (List.cons.inj e1).1
    obtain ⟨y2, h2⟩ := go 2 _ rfl
    obtain ⟨k2, e2, _, z2⟩ := DataW.trod_string Try.underlying9 (show DataW.trod enc Try.prog W 0 (fun _ => true) true n 9 [c2] = some y2 from h2)
    obtain rfl := (List.cons.inj e2).1
    obtain ⟨y3, h3⟩ := go 3 _ rfl
    obtain ⟨k3, e3, _, z3⟩ := DataW.trod_string Try.underlying9 (show DataW.trod enc Try.prog W 0 (fun _ => true) true n 9 [c3] = some y3 from h3)
    obtain rfl := (List.cons.inj e3).1
    obtain ⟨y4, h4⟩ := go 4 _ rfl
    obtain ⟨k4, e4, _, z4⟩ := DataW.trod_string Try.underlying9 (show DataW.trod enc Try.prog W 0 (fun _ => true) true n 9 [c4] = some y4 from h4)
    obtain rfl := (List.cons.inj e4).1
    obtain ⟨y5, h5⟩ := go 5 _ rfl
    obtain ⟨k5, e5, _, _⟩ := DataW.trod_int Try.underlying3 (show DataW.trod enc Try.prog W 0 (fun _ => true) true n 3 [c5] = some y5 from h5)
    obtain rfl := (List.cons.inj e5).1
    exact ⟨⟨k0, k1, k2, k3, k4, k5⟩, rfl, z2, z3, z4⟩

theorem by_entry {base : Nat} {v : Value} {d : DataW H} {p : List MemPlace} (hv : Value.okWide Try.prog W .any base 23 v) (h : DataW.Trod enc Try.prog W 0 (fun _ => true) true 23 v d p) :
    ∃ e : E, v = .agg e.cells ∧ OkE e := by
  obtain ⟨cs, rfl, hsz⟩ := okWide_struct Try.underlying23 hv
  obtain ⟨fuel, hf⟩ := h
  obtain ⟨e, hm, hok⟩ := open_entry hf
  have : cs = e.cells := Array.ext' hm
  subst this
  exact ⟨e, rfl, hok⟩
theorem laidOut : laidOutB Try.prog = true := by kernel_rfl
theorem again {t : TypeId} (hr : Try.prog.readableRec t = true) (hrow : t < Try.prog.types.size) {W' : World} {v : Value} {d : DataW H} {ps : List MemPlace}
    (h : DataW.Trod enc Try.prog W 0 (fun _ => true) true t v d ps) (hb : Below W.heap.size W W') (hlt : ∀ x ∈ ps, x.block < W.heap.size) :
    DataW.Trod enc Try.prog W' 0 (fun b => decide (b < W.heap.size)) true t v d ps := Below.trod laidOut hr hrow h hb hlt
end

/-- A new block, of a struct's zero, in which a struct is laid at once. -/
theorem laid_new (t : TypeId) (w : World) (z cs : Array Value) : Bk t ((w.alloc (.cells z t)).setRow w.heap.size cs) w.heap.size cs := (Bk.new t w z).put cs
theorem laid_old {t : TypeId} {w : World} {b : Nat} {cs : Array Value} (h : Bk t w b cs) (t' : TypeId) (z cs' : Array Value) : Bk t ((w.alloc (.cells z t')).setRow w.heap.size cs') b cs := (h.old _).row (by have := h.lt; omega) _
theorem laid_below {a w : World} {B : Nat} (h : Below B a w) (hB : B ≤ w.heap.size) (t : TypeId) (z cs : Array Value) : Below B a ((w.alloc (.cells z t)).setRow w.heap.size cs) := below_setRow (h.alloc hB _) hB cs

/-- What Get answers. -/
def getE (s : ByteArray) : E := if s.size = 20 then E.of s else E.zero
def getB (s : ByteArray) : Bool := decide (s.size = 20)
theorem get_any (s : ByteArray) (w : World) (hs : s.size ≤ maxLen) :
    Calls Try.prog 6 #[.string s] w fun e w' => e = .returned (.tuple #[.agg (getE s).cells, .bool (getB s)]) ∧ Below w.heap.size w w' := by
  by_cases h : s.size = 20
  · have := get_yes s w h
    unfold getE getB
    rw [if_pos h, decide_eq_true h]; exact this
  · have := get_no s w hs h
    unfold getE getB
    rw [if_neg h, decide_eq_false h]; exact this
theorem rget_any (s : ByteArray) (w : World) (hs : s.size ≤ maxLen) :
    Calls Try.prog 7 #[.string s] w fun e w' => e = .returned (.tuple #[.agg (getE s).cells, .bool (getB s)]) ∧ Below w.heap.size w w' := by
  by_cases h : s.size = 20
  · have := rget_yes s w h
    unfold getE getB
    rw [if_pos h, decide_eq_true h]; exact this
  · have := rget_no s w hs h
    unfold getE getB
    rw [if_neg h, decide_eq_false h]; exact this
end Go.Proofs.Ytmegnjkiejeboaa.Open
