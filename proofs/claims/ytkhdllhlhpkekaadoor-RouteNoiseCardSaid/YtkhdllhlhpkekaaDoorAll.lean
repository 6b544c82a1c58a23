/-
  Whether two lists of messages are the same: the program's answer (slices.EqualFunc) and the document's; whether a list has few messages. Condition: lists within of at most 2^20 elements.
-/
import Derived.Test.YtkhdllhlhpkekaaDoorFew
import Derived.Test.YtkhdllhlhpkekaaDoorP4
import Derived.Deep.WholeRow
namespace Go.Proofs.YtkhdllhlhpkekaaDoor.All
open Go.ChangeShapes Go.WideShapes Go.ChangeAt Go.RowKit
open Go.Proofs.YtkhdllhlhpkekaaDoor.Ms
open Go.Proofs.YtkhdllhlhpkekaaDoor.Box
open Go.Proofs.YtkhdllhlhpkekaaDoor.Same
open Go.Proofs.YtkhdllhlhpkekaaDoor.SameP
open Go.Proofs.YtkhdllhlhpkekaaDoor.RSame
open Go.Proofs.YtkhdllhlhpkekaaDoor.Hs
open Go.Proofs.YtkhdllhlhpkekaaDoor.Few
set_option linter.unusedVariables false
set_option maxRecDepth 100000

/-- The messages of a list stand in w. -/
def MRow (w : World) (a : Option Addr) (l : List M) : Prop :=
  ∀ i (h : i < l.length), ∃ p, a = some p ∧ p.block < w.heap.size ∧ (∀ j v, (l[i].cells.toList)[j]? = some v → w.cell? ((p.add (i * 25)).add j) = some v) ∧ DRow w l[i].la l[i].ll ∧ SRow w l[i].sa l[i].sl
theorem MRow.below {w w' : World} {a : Option Addr} {l : List M} (h : MRow w a l) (hb : Below w.heap.size w w') : MRow w' a l := by
  intro i hi
  obtain ⟨p, h1, h2, h3, h4, h5⟩ := h i hi
  refine ⟨p, h1, Nat.lt_of_lt_of_le h2 hb.size, fun j v hv => ?_, h4.below hb, h5.below hb⟩
  rw [hb.cell (by rw [add_block, add_block]; exact h2)]
  exact h3 j v hv
theorem MRow.nil (w : World) (a : Option Addr) : MRow w a [] := fun i hi => absurd hi (by simp)
/-- No list within is long. -/
def Short (m : M) : Prop := m.ll.length ≤ 1048576 ∧ m.sl.length ≤ 1048576

theorem loadVarA {w : World} {q : Addr} {m : M} (h : ∀ j v, (m.cells.toList)[j]? = some v → w.cell? (q.add j) = some v) : (loadVar 25 q).run Tryd.prog w = .ok (.agg m.cells) w := by
  have hl : (loadCells q 25).run Tryd.prog w = .ok m.cells w := by
    have := run_loadCells_list (P := Tryd.prog) w q m.cells.toList h
    rw [show m.cells.toList.length = 25 from rfl] at this
    rw [this]
  have hagg : (isAgg 25).run Tryd.prog w = .ok true w := by go_simp
  have hsz : (sizeOf 25).run Tryd.prog w = .ok 25 w := by go_simp
  simp only [loadVar, Sem.run_bind, hagg, Result.andThen_ok, if_true, hsz, hl, Sem.run_pure]
theorem ex_loadA {o : Oper} {ρ : Operand → Value} {x : Operand} {q : Addr} {m : M} {w : World} (ho : o.op = .load 25 x) (hx : ρ x = .pointer (some q)) (h : ∀ j v, (m.cells.toList)[j]? = some v → w.cell? (q.add j) = some v) :
    (execOp ρ o).run Tryd.prog w = .ok (.value (.agg m.cells)) w := by
  unfold execOp
  simp only [ho, hx, Instr.loadAt, Instr.sureAddr, Sem.run_bind, Sem.run_pure, Result.andThen_ok, loadVarA h]
theorem wpList_loadA {ops : Array Oper} {rest : List Oper} {o : Oper} {a : Act} {w : World} {Q : Exit → Act → World → Prop} (hgd : o.guard = none) (x : Operand) (ho : o.op = .load 25 x)
    {q : Addr} (hx : a.eval x = .pointer (some q)) {m : M} (hm : ∀ j v, (m.cells.toList)[j]? = some v → w.cell? (q.add j) = some v)
    (h : wpList Tryd.prog ops Q rest (a.put o.dst (.agg m.cells)) w) : wpList Tryd.prog ops Q (o :: rest) a w :=
  wpList_plain hgd fun K hK => by
    unfold Oper.wp
    rw [ex_loadA ho hx hm]
    exact hK _ _ h

/-- Few messages, each of few parts? -/
def fewL (l : List M) (n : Int) : Bool := decide ((l.length : Int) ≤ n) && l.all fewB
theorem all_take (l : List M) (k : Nat) (h : k < l.length) : (l.take (k + 1)).all fewB = ((l.take k).all fewB && fewB l[k]) := by
  rw [List.take_succ_eq_append_getElem h, List.all_append]
  simp
theorem all_not (l : List M) (k : Nat) (h : k < l.length) (hn : fewB l[k] = false) : l.all fewB = false := by
  rw [List.all_eq_false]
  exact ⟨l[k], List.getElem_mem h, by rw [hn]; simp⟩

open Classical in
/-- Are the lists the same? -/
noncomputable def sameL (x y : List M) : Bool := decide (x.length = y.length ∧ ∀ i (hx : i < x.length) (hy : i < y.length), M.same x[i] y[i] = true)
theorem sameL_yes {x y : List M} (hl : x.length = y.length) (h : ∀ i (hx : i < x.length) (hy : i < y.length), M.same x[i] y[i] = true) : sameL x y = true := by unfold sameL; exact decide_eq_true ⟨hl, h⟩
theorem sameL_len {x y : List M} (hl : x.length ≠ y.length) : sameL x y = false := by unfold sameL; exact decide_eq_false fun h => hl h.1
theorem sameL_at {x y : List M} {k : Nat} (hx : k < x.length) (hy : k < y.length) (h : M.same x[k] y[k] = false) : sameL x y = false := by
  unfold sameL
  exact decide_eq_false fun h2 => by have := h2.2 k hx hy; rw [h] at this; cases this
theorem same_refl (m : M) : M.same m m = true := by simp [M.same, M.flatE]

/-- What stays in the document's round. -/
def S3 (w : World) (p q : Addr) (u v : M) (W : World) : Prop := (∀ j x, (u.cells.toList)[j]? = some x → W.cell? (p.add j) = some x) ∧ (∀ j x, (v.cells.toList)[j]? = some x → W.cell? (q.add j) = some x) ∧ u.In W ∧ v.In W ∧ p.block < W.heap.size ∧ q.block < W.heap.size ∧ Below w.heap.size w W
theorem S3.keep {w : World} {p q : Addr} {u v : M} (W w1 : World) (h : S3 w p q u v W) (hb : Below W.heap.size W w1) : S3 w p q u v w1 :=
  ⟨fun j x hx => (hb.cell (p := p.add j) (by rw [add_block]; exact h.2.2.2.2.1)).trans (h.1 j x hx), fun j x hx => (hb.cell (p := q.add j) (by rw [add_block]; exact h.2.2.2.2.2.1)).trans (h.2.1 j x hx), h.2.2.1.below hb, h.2.2.2.1.below hb, Nat.lt_of_lt_of_le h.2.2.2.2.1 hb.size, Nat.lt_of_lt_of_le h.2.2.2.2.2.1 hb.size, bcall h.2.2.2.2.2.2 hb⟩

end Go.Proofs.YtkhdllhlhpkekaaDoor.All
