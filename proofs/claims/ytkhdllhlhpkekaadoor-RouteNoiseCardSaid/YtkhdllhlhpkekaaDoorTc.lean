/-
  What the rows' condition gives the walks: from which length to which prefixes are, by their encoding, as the listed variable has it when the call begins; that it has the same as long as nothing that was there is changed.
-/
import Derived.Test.YtkhdllhlhpkekaaDoorRows
import Derived.Below
import Derived.OpenShut
import Derived.LaidLaws
import Derived.LaidMore
import Derived.Lib.LaidTab
import Derived.Lib.SmallJoins
import Derived.ChangeSame
namespace Go.Proofs.YtkhdllhlhpkekaaDoor.Tc
open Go.RowKit Go.ChangeShapes Go.WideShapes Go.Joins
set_option maxRecDepth 100000

/-- What the variable has. -/
structure Tab (w : World) : Prop where
  s0 : w.cell? ⟨0, 0, none⟩ = some (.int .i64 0)
  s1 : w.cell? ⟨0, 1, none⟩ = some (.int .i64 0)
  s2 : w.cell? ⟨0, 2, none⟩ = some (.int .i64 0)
  s3 : w.cell? ⟨0, 3, none⟩ = some (.int .i64 32)
  s4 : w.cell? ⟨0, 4, none⟩ = some (.int .i64 0)
  s5 : w.cell? ⟨0, 5, none⟩ = some (.int .i64 128)
  s6 : w.cell? ⟨0, 6, none⟩ = some (.int .i64 64)
  s7 : w.cell? ⟨0, 7, none⟩ = some (.int .i64 128)
theorem g0 : Tryd.prog.globalNamed "roadbook/route.spans" = some 0 := by kernel_rfl
theorem t0 : (Tryd.prog.globals[0]?).map (·.type) = some 109 := by kernel_rfl
theorem eight {α : Type} (l : List α) (h : l.length = 8) : ∃ a b c d e f g i, l = [a, b, c, d, e, f, g, i] := by
  match l, h with
  | [a, b, c, d, e, f, g, i], _ => exact ⟨a, b, c, d, e, f, g, i, rfl⟩
theorem of_laid {w : World} (h : laidMetH Tryd.prog Rows.routeTellsRow.laid w) : Tab w := by
  have h : laidMet Tryd.prog Rows.routeTellsRow.laid w := by
    rw [MakeChecks.laidMetH_plain _ _ _ (by kernel_rfl)] at h; exact h
  obtain ⟨ps, ⟨g', t', cs, f, p, q, hg', ht', hv, hd, _, _⟩, _⟩ := h
  obtain rfl := Option.some.inj (g0.symm.trans hg')
  obtain rfl := Option.some.inj (t0.symm.trans ht')
  have cS : Tryd.prog.cellsOf 108 = 2 := by kernel_rfl
  have cA : Tryd.prog.cellsOf 109 = 8 := by kernel_rfl
  have c3 : Tryd.prog.cellsOf 3 = 1 := by kernel_rfl
  obtain ⟨xs, m, _, ex, hl, hn, hel⟩ := DataW.trod_array Tryd.underlying109 hd
  rw [cA] at hl
  obtain ⟨a0, a1, a2, a3, a4, a5, a6, a7, hcs⟩ := eight _ hl
  have e0 := hel 0 (by decide)
  have e1 := hel 1 (by decide)
  have e2 := hel 2 (by decide)
  have e3 := hel 3 (by decide)
  rw [cS, hcs] at e0 e1 e2 e3
  match xs, hn, ex, e0, e1, e2, e3 with
  | [x0, x1, x2, x3], _, ex, e0, e1, e2, e3 =>
    simp only [List.drop_zero, List.take_succ_cons, List.take_zero, Nat.zero_mul, Nat.one_mul, Nat.reduceMul, List.drop_succ_cons, List.getElem?_cons_zero, List.getElem?_cons_succ] at e0 e1 e2 e3
    obtain ⟨y0, y1, n0, hx0, _, f0, f1⟩ := trod_struct2 Tryd.underlying108 e0
    obtain ⟨y2, y3, n1, hx1, _, f2, f3⟩ := trod_struct2 Tryd.underlying108 e1
    obtain ⟨y4, y5, n2, hx2, _, f4, f5⟩ := trod_struct2 Tryd.underlying108 e2
    obtain ⟨y6, y7, n3, hx3, _, f6, f7⟩ := trod_struct2 Tryd.underlying108 e3
    simp only [c3, List.drop_zero, List.take_succ_cons, List.take_zero, List.drop_succ_cons] at f0 f1 f2 f3 f4 f5 f6 f7
    obtain ⟨b0, q0, k0, _⟩ := DataW.trod_int Tryd.underlying3 f0
    obtain ⟨b1, q1, k1, _⟩ := DataW.trod_int Tryd.underlying3 f1
    obtain ⟨b2, q2, k2, _⟩ := DataW.trod_int Tryd.underlying3 f2
    obtain ⟨b3, q3, k3, _⟩ := DataW.trod_int Tryd.underlying3 f3
    obtain ⟨b4, q4, k4, _⟩ := DataW.trod_int Tryd.underlying3 f4
    obtain ⟨b5, q5, k5, _⟩ := DataW.trod_int Tryd.underlying3 f5
    obtain ⟨b6, q6, k6, _⟩ := DataW.trod_int Tryd.underlying3 f6
    obtain ⟨b7, q7, k7, _⟩ := DataW.trod_int Tryd.underlying3 f7
    subst k0 k1 k2 k3 k4 k5 k6 k7
    subst hx0 hx1 hx2 hx3
    simp [Rows.laid_roadbook_route_spans] at ex
    obtain ⟨⟨⟨r0, r1⟩, ⟨r2, r3⟩, ⟨r4, r5⟩, r6, r7⟩, _⟩ := ex
    simp only [List.cons.injEq, and_true] at q0 q1 q2 q3 q4 q5 q6 q7
    have hc : ∀ i, w.cell? ⟨0, i, none⟩ = cs.toList[i]? := fun i => by have := World.var?_cell g0 hv i; simpa using this
    rw [hcs] at hc
    subst q0 q1 q2 q3 q4 q5 q6 q7
    subst r0 r1 r2 r3 r4 r5 r6 r7
    exact ⟨hc 0, hc 1, hc 2, hc 3, hc 4, hc 5, hc 6, hc 7⟩
theorem Tab.pos {w : World} (h : Tab w) : 0 < w.heap.size := World.block_lt_of_cell? _ _ h.s0
/-- .. and behind whatever leaves the first block as it was. -/
theorem Tab.under {B : Nat} {w w' : World} (h : Tab w) (hb : Below B w w') (hB : 0 < B) : Tab w' :=
  ⟨(hb.cell hB).trans h.s0, (hb.cell hB).trans h.s1, (hb.cell hB).trans h.s2, (hb.cell hB).trans h.s3, (hb.cell hB).trans h.s4, (hb.cell hB).trans h.s5, (hb.cell hB).trans h.s6, (hb.cell hB).trans h.s7⟩
theorem Tab.below {w w' : World} (h : Tab w) (hb : Below w.heap.size w w') : Tab w' := h.under hb h.pos
theorem Tab.drew {w : World} (h : Tab w) : Tab w.drew := ⟨h.s0, h.s1, h.s2, h.s3, h.s4, h.s5, h.s6, h.s7⟩
end Go.Proofs.YtkhdllhlhpkekaaDoor.Tc
