/-
  What the rows' condition gives the walks: from which length to which prefixes are, and how many bytes of an address stand, by its encoding, as the two listed variables have it when the call begins; that they have the same as long as nothing that was there is changed. Generic: the variables' numbers are marks.
  A cursor at work, whatever it is; the head of a datagram: the program's readHead, Body, Trailer, Wrap, and the document's. Condition: at most 2^20 bytes.
-/
import Derived.Test.YtjhfpobjbijcpaaGreatDoorE02
import Derived.Test.YtjhfpobjbijcpaaGreatDoorE03
import Derived.Test.YtjhfpobjbijcpaaGreatDoorE12
import Derived.Test.YtjhfpobjbijcpaaGreatDoorE13
import Derived.Test.YtjhfpobjbijcpaaGreatDoorRows
import Derived.Below
import Derived.OpenShut
import Derived.LaidLaws
import Derived.LaidMore
import Derived.Lib.LaidTab
import Derived.Stop.LaidErr
import Derived.Lib.SmallJoins
import Derived.ChangeSame
namespace Go.Proofs.YtjhfpobjbijcpaaGreatDoor.Tc
open Go.RowKit Go.ChangeShapes Go.WideShapes Go.Joins
set_option maxRecDepth 100000

/-- What the variable has. -/
structure Tab (w : World) : Prop where
  a0 : w.cell? ⟨0, 0, none⟩ = some (.int .i64 0)
  a1 : w.cell? ⟨0, 1, none⟩ = some (.int .i64 4)
  a2 : w.cell? ⟨0, 2, none⟩ = some (.int .i64 16)
  a3 : w.cell? ⟨0, 3, none⟩ = some (.int .i64 8)
  s0 : w.cell? ⟨1, 0, none⟩ = some (.int .i64 0)
  s1 : w.cell? ⟨1, 1, none⟩ = some (.int .i64 0)
  s2 : w.cell? ⟨1, 2, none⟩ = some (.int .i64 0)
  s3 : w.cell? ⟨1, 3, none⟩ = some (.int .i64 32)
  s4 : w.cell? ⟨1, 4, none⟩ = some (.int .i64 0)
  s5 : w.cell? ⟨1, 5, none⟩ = some (.int .i64 128)
  s6 : w.cell? ⟨1, 6, none⟩ = some (.int .i64 64)
  s7 : w.cell? ⟨1, 7, none⟩ = some (.int .i64 128)
theorem ga : Tryz.prog.globalNamed "roadbook/field.addrSizes" = some 0 := by kernel_rfl
theorem ta : (Tryz.prog.globals[0]?).map (·.type) = some 136 := by kernel_rfl
theorem g0 : Tryz.prog.globalNamed "roadbook/route.spans" = some 1 := by kernel_rfl
theorem t0 : (Tryz.prog.globals[1]?).map (·.type) = some 139 := by kernel_rfl
theorem eight {α : Type} (l : List α) (h : l.length = 8) : ∃ a b c d e f g i, l = [a, b, c, d, e, f, g, i] := by
  match l, h with
  | [a, b, c, d, e, f, g, i], _ => exact ⟨a, b, c, d, e, f, g, i, rfl⟩
theorem of_laid {w : World} (h : laidMetH Tryz.prog [("roadbook/field.addrSizes", Rows.laid_roadbook_field_addrSizes), ("roadbook/route.spans", Rows.laid_roadbook_route_spans)] w) : Tab w := by
  have h : laidMet Tryz.prog [("roadbook/field.addrSizes", Rows.laid_roadbook_field_addrSizes), ("roadbook/route.spans", Rows.laid_roadbook_route_spans)] w := by
    rw [MakeChecks.laidMetH_plain _ _ _ (by kernel_rfl)] at h; exact h
  have ha : Lib.TabIs Tryz.prog w "roadbook/field.addrSizes" .i64 [0, 4, 16, 8] := Lib.tabIs_of_head ga ta Tryz.underlying136 Tryz.underlying3 (by kernel_rfl) (by kernel_rfl) (rest := _) (by exact h)
  have h := h.tail
  obtain ⟨ps, ⟨g', t', cs, f, p, q, hg', ht', hv, hd, _, _⟩, _⟩ := h
  obtain rfl := Option.some.inj (g0.symm.trans hg')
  obtain rfl := Option.some.inj (t0.symm.trans ht')
  have cS : Tryz.prog.cellsOf 138 = 2 := by kernel_rfl
  have cA : Tryz.prog.cellsOf 139 = 8 := by kernel_rfl
  have c3 : Tryz.prog.cellsOf 3 = 1 := by kernel_rfl
  obtain ⟨xs, m, _, ex, hl, hn, hel⟩ := DataW.trod_array Tryz.underlying139 hd
  rw [cA] at hl
  obtain ⟨a0, a1, a2, a3, a4, a5, a6, a7, hcs⟩ := eight _ hl
  have e0 := hel 0 (by decide)
  have e1 := hel 1 (by decide)
  have e2 := hel 2 (by decide)
  have e3 := hel 3 (by decide)
  rw [cS, hcs] at e0 e1 e2 e3
  match xs, hn, ex, e0, e1, e2, e3 with
  | [x0, x1, x2, x3], _, ex, e0, e1, e2, e3 =>
    simp only [List.drop_zero, List.take_succ_cons, List.take_zero, Nat.zero_mul, Nat.one_mul, Nat.reduceMul, List.drop_succ_cons, List.getElem?_cons_zero, List.getElem?_cons_succ] at e0 e1 e2 e3
    obtain ⟨y0, y1, n0, hx0, _, f0, f1⟩ := trod_struct2 Tryz.underlying138 e0
    obtain ⟨y2, y3, n1, hx1, _, f2, f3⟩ := trod_struct2 Tryz.underlying138 e1
    obtain ⟨y4, y5, n2, hx2, _, f4, f5⟩ := trod_struct2 Tryz.underlying138 e2
    obtain ⟨y6, y7, n3, hx3, _, f6, f7⟩ := trod_struct2 Tryz.underlying138 e3
    simp only [c3, List.drop_zero, List.take_succ_cons, List.take_zero, List.drop_succ_cons] at f0 f1 f2 f3 f4 f5 f6 f7
    obtain ⟨b0, q0, k0, _⟩ := DataW.trod_int Tryz.underlying3 f0
    obtain ⟨b1, q1, k1, _⟩ := DataW.trod_int Tryz.underlying3 f1
    obtain ⟨b2, q2, k2, _⟩ := DataW.trod_int Tryz.underlying3 f2
    obtain ⟨b3, q3, k3, _⟩ := DataW.trod_int Tryz.underlying3 f3
    obtain ⟨b4, q4, k4, _⟩ := DataW.trod_int Tryz.underlying3 f4
    obtain ⟨b5, q5, k5, _⟩ := DataW.trod_int Tryz.underlying3 f5
    obtain ⟨b6, q6, k6, _⟩ := DataW.trod_int Tryz.underlying3 f6
    obtain ⟨b7, q7, k7, _⟩ := DataW.trod_int Tryz.underlying3 f7
    subst k0 k1 k2 k3 k4 k5 k6 k7
    subst hx0 hx1 hx2 hx3
    simp [Rows.laid_roadbook_route_spans] at ex
    obtain ⟨⟨⟨r0, r1⟩, ⟨r2, r3⟩, ⟨r4, r5⟩, r6, r7⟩, _⟩ := ex
    simp only [List.cons.injEq, and_true] at q0 q1 q2 q3 q4 q5 q6 q7
    have hc : ∀ i, w.cell? ⟨1, i, none⟩ = cs.toList[i]? := fun i => by have := World.var?_cell g0 hv i; simpa using this
    rw [hcs] at hc
    subst q0 q1 q2 q3 q4 q5 q6 q7
    subst r0 r1 r2 r3 r4 r5 r6 r7
    exact ⟨ha.cell ga 0 (by decide), ha.cell ga 1 (by decide), ha.cell ga 2 (by decide), ha.cell ga 3 (by decide), hc 0, hc 1, hc 2, hc 3, hc 4, hc 5, hc 6, hc 7⟩
theorem Tab.pos {w : World} (h : Tab w) : 1 < w.heap.size := by
  have h0 := World.block_lt_of_cell? _ _ h.a0
  have h0 : 0 < w.heap.size := h0
  have h1 := World.block_lt_of_cell? _ _ h.s0
  have h1 : 1 < w.heap.size := h1
  omega
/-- .. and behind whatever leaves the first two blocks as they were. -/
theorem Tab.under {B : Nat} {w w' : World} (h : Tab w) (hb : Below B w w') (hB : 1 < B) : Tab w' := by
  have c : ∀ b i, b ≤ 1 → w'.cell? ⟨b, i, none⟩ = w.cell? ⟨b, i, none⟩ := fun b i hi => hb.cell (p := ⟨b, i, none⟩) (by show b < B; omega)
  exact ⟨(c _ _ (by decide)).trans h.a0, (c _ _ (by decide)).trans h.a1, (c _ _ (by decide)).trans h.a2, (c _ _ (by decide)).trans h.a3, (c _ _ (by decide)).trans h.s0, (c _ _ (by decide)).trans h.s1, (c _ _ (by decide)).trans h.s2, (c _ _ (by decide)).trans h.s3, (c _ _ (by decide)).trans h.s4, (c _ _ (by decide)).trans h.s5, (c _ _ (by decide)).trans h.s6, (c _ _ (by decide)).trans h.s7⟩
theorem Tab.below {w w' : World} (h : Tab w) (hb : Below w.heap.size w w') : Tab w' := h.under hb h.pos
end Go.Proofs.YtjhfpobjbijcpaaGreatDoor.Tc
namespace Go.Proofs.YtjhfpobjbijcpaaGreatDoor.F2
open Go.ChangeShapes Go.WideShapes Go.ChangeAt Go.RowKit
open Go.Proofs.YtjhfpobjbijcpaaGreatDoor.F1
open Go.Proofs.YtjhfpobjbijcpaaGreatDoor.Nu
open Go.Proofs.YtjhfpobjbijcpaaGreatDoor.Cur (numL)
open Go.Proofs.YtjhfpobjbijcpaaGreatDoor.Bk (Bk Sh loadVarK wpList_builtK wpList_loadK wpList_storeK run_loadK alloc_size)
open Go.Proofs.YtjhfpobjbijcpaaGreatDoor.Hs
set_option linter.unusedVariables false
set_option maxRecDepth 100000
set_option maxRecDepth 100000

theorem bcall {w W w1 : World} (h : Below w.heap.size w W) (hb : Below W.heap.size W w1) : Below w.heap.size w w1 := h.trans (hb.mono h.size)
theorem balloc {w W : World} (h : Below w.heap.size w W) (o : Obj) : Below w.heap.size w (W.alloc o) := h.alloc h.size o
theorem idx (b : ByteArray) (k : Nat) (i : Int) (hi : i = k) (h : k < b.size) (W : World) : (Instr.index 9 (.string b) (.int .i64 i)).run Tryz.prog W = .ok (.int .u8 (bt b k)) W := by
  subst hi
  rw [run_index_string W 9 b .i64 (k : Int) Tryz.underlying9, dif_pos ⟨by omega, by omega⟩, ← bt_eq b k h]
  rfl
theorem sl_l (s : ByteArray) (i : Int) (lo hi : Nat) (hi' : i = lo) (h1 : lo ≤ s.size) (hs : s.size = hi) (W : World) :
    (Instr.slice 9 (.string s) (some (.int .i64 i)) none none).run Tryz.prog W = .ok (.string (s.extract lo hi)) W := by
  subst hi' hs
  have := run_slice_string_l (P := Tryz.prog) (t := 9) (s := s) W Tryz.underlying9 .i64 (lo : Int) (by omega) (by omega)
  simpa using this
end Go.Proofs.YtjhfpobjbijcpaaGreatDoor.F2
