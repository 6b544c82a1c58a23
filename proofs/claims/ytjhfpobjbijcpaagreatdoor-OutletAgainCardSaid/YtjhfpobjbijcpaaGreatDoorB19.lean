/-
  What is known as the program holds it: its block, loaded and stored whole; whether two are the same; lists of messages that are alike but for where their Subs stand; what a step answers; what came in, opened. No conditions.
  What the rows' condition gives the walks: from which length to which prefixes are, and how many bytes of an address stand, by its encoding, as the two listed variables have it when the call begins; that they have the same as long as nothing that was there is changed. Generic: the variables' numbers are marks.
  A cursor at work, whatever it is; the head of a datagram: the program's readHead, Body, Trailer, Wrap, and the document's. Condition: at most 2^20 bytes.
-/
import Derived.Test.YtjhfpobjbijcpaaGreatDoorB02
import Derived.Test.YtjhfpobjbijcpaaGreatDoorB13
import Derived.Test.YtjhfpobjbijcpaaGreatDoorB16
import Derived.Test.YtjhfpobjbijcpaaGreatDoorB17
import Derived.Test.YtjhfpobjbijcpaaGreatDoorB18
import Derived.Lib.SmallJoins
import Derived.Test.YtjhfpobjbijcpaaGreatDoorRows
import Derived.Below
import Derived.OpenShut
import Derived.LaidLaws
import Derived.LaidMore
import Derived.Lib.LaidTab
import Derived.Stop.LaidErr
import Derived.ChangeSame
namespace Go.Proofs.YtjhfpobjbijcpaaGreatDoor.Kb
open Go.ChangeShapes Go.WideShapes Go.ChangeAt Go.RowKit Go.Joins
open Go.Proofs.YtjhfpobjbijcpaaGreatDoor.Ms
open Go.Proofs.YtjhfpobjbijcpaaGreatDoor.Box
open Go.Proofs.YtjhfpobjbijcpaaGreatDoor.All
open Go.Proofs.YtjhfpobjbijcpaaGreatDoor.An
open Go.Proofs.YtjhfpobjbijcpaaGreatDoor.K1
open Go.Proofs.YtjhfpobjbijcpaaGreatDoor.F1 (T)
open Go.Proofs.YtjhfpobjbijcpaaGreatDoor.Ap (add_at cells_new)
open Go.Proofs.YtjhfpobjbijcpaaGreatDoor.Tl (cellsT TRow)
open Go.Proofs.YtjhfpobjbijcpaaGreatDoor.Open (each_field els open_msg)
open Go.Proofs.YtjhfpobjbijcpaaGreatDoor.Bk (Bk Sh alloc_size wpList_loadK wpList_storeK run_loadK)
open Go.Deep
set_option linter.unusedVariables false
set_option maxRecDepth 100000
set_option maxRecDepth 100000
theorem shX : Sh Tryz.prog 44 7 := ⟨_, Tryz.underlying44, by kernel_rfl⟩
theorem oneX (x : Kx) : (x.cells.all fun x => x.oneCell') = true := by simp [Kx.cells, Value.oneCell']
theorem wpList_loadX {ops : Array Oper} {rest : List Oper} {o : Oper} {a : Act} {w : World} {Q : Exit → Act → World → Prop} (hgd : o.guard = none) (x : Operand) (ho : o.op = .load 44 x) {b : Nat} (hx : a.eval x = .pointer (some ⟨b, 0, none⟩)) {m : Kx} (hb : Bk 44 w b m.cells)
    (h : wpList Tryz.prog ops Q rest (a.put o.dst (.agg m.cells)) w) : wpList Tryz.prog ops Q (o :: rest) a w := wpList_loadK shX hgd x ho hx hb rfl h
theorem wpList_storeX {ops : Array Oper} {rest : List Oper} {o : Oper} {a : Act} {w : World} {Q : Exit → Act → World → Prop} (hgd : o.guard = none) (x y : Operand) (ho : o.op = .store 44 x y) {b : Nat} (hx : a.eval x = .pointer (some ⟨b, 0, none⟩)) {m m' : Kx} (hy : a.eval y = .agg m'.cells) (hb : Bk 44 w b m.cells)
    (h : wpList Tryz.prog ops Q rest (a.put o.dst undef) (w.setRow b m'.cells)) : wpList Tryz.prog ops Q (o :: rest) a w := wpList_storeK shX hgd x y ho hx hy hb rfl rfl (oneX m') h

/-- l is l', but for where the messages' Subs stand. -/
def PlL (l l' : List M) : Prop := l.length = l'.length ∧ ∀ i (h : i < l.length) (h' : i < l'.length), Pl l[i] l'[i]
theorem PlL.nil : PlL [] [] := ⟨rfl, fun i h => absurd h (by simp)⟩
theorem PlL.one {n m : M} (h : Pl n m) : PlL [n] [m] := ⟨rfl, fun i h1 h2 => by
  obtain rfl : i = 0 := by (simp at h1; exact h1)
  exact h⟩
theorem PlL.refl (l : List M) : PlL l l := ⟨rfl, fun i h1 h2 => Pl.refl _⟩
theorem PlL.same {x x' y y' : List M} (h : PlL x y) (h' : PlL x' y') : sameL x x' = sameL y y' := by
  unfold sameL
  rw [decide_eq_decide]
  constructor
  · rintro ⟨h1, h2⟩
    refine ⟨by rw [← h.1, ← h'.1]; exact h1, fun i k1 k2 => ?_⟩
    rw [← (h.2 i (by rw [h.1]; exact k1) k1).same (h'.2 i (by rw [h'.1]; exact k2) k2)]
    exact h2 i _ _
  · rintro ⟨h1, h2⟩
    refine ⟨by rw [h.1, h'.1]; exact h1, fun i k1 k2 => ?_⟩
    rw [(h.2 i k1 (by rw [← h.1]; exact k1)).same (h'.2 i k2 (by rw [← h'.1]; exact k2))]
    exact h2 i _ _
theorem PlL.short {x y : List M} (h : PlL x y) (hs : ∀ m ∈ y, m.la = none ∧ m.ll = [] ∧ m.lc = 0 ∧ m.sl.length ≤ 100 ∧ ∀ x ∈ m.sl, x.1.size ≤ 1099511627776) : ∀ m ∈ x, Short m := by
  intro m hm
  obtain ⟨i, hi, rfl⟩ := List.getElem_of_mem hm
  have hy : i < y.length := by rw [← h.1]; exact hi
  have hp := h.2 i hi hy
  obtain ⟨_, h1, _, h2, _⟩ := hs _ (List.getElem_mem hy)
  have e : x[i].ll = y[i].ll := by rw [show x[i] = _ from hp]
  exact ⟨by rw [e, h1]; exact Nat.zero_le _, by rw [hp.sl]; omega⟩
/-- A list of messages of a call's own (what is new begins at block B): each has Subs alone, which are the call's own. -/
def MOwn (B : Nat) (w : World) (a : Option Addr) (l : List M) : Prop :=
  ∀ i (h : i < l.length), ∃ p, a = some p ∧ B ≤ p.block ∧ p.block < w.heap.size ∧ (∀ j v, (l[i].cells.toList)[j]? = some v → w.cell? ((p.add (i * 25)).add j) = some v) ∧ l[i].ll = [] ∧ Sx.Lst B w (.slice l[i].sa l[i].sl.length l[i].sc) l[i].sl
theorem MOwn.nil (B : Nat) (w : World) (a : Option Addr) : MOwn B w a [] := fun i hi => absurd hi (by simp)
theorem MOwn.row {B : Nat} {w : World} {a : Option Addr} {l : List M} (h : MOwn B w a l) : MRow w a l := fun i hi => by
  obtain ⟨p, h1, _, h3, h4, h5, h6⟩ := h i hi
  exact ⟨p, h1, h3, h4, by rw [h5]; exact DRow.nil _ _, h6.row⟩
theorem MOwn.below {B : Nat} {w w' : World} {a : Option Addr} {l : List M} (h : MOwn B w a l) (hb : Below w.heap.size w w') : MOwn B w' a l := fun i hi => by
  obtain ⟨p, h1, h2, h3, h4, h5, h6⟩ := h i hi
  exact ⟨p, h1, h2, Nat.lt_of_lt_of_le h3 hb.size, fun j v hv => (hb.cell (by rw [add_block, add_block]; exact h3)).trans (h4 j v hv), h5, h6.below hb⟩
theorem MOwn.mono {B B' : Nat} {w : World} {a : Option Addr} {l : List M} (h : MOwn B w a l) (hB : B' ≤ B) : MOwn B' w a l := fun i hi => by
  obtain ⟨p, h1, h2, h3, h4, h5, h6⟩ := h i hi
  exact ⟨p, h1, Nat.le_trans hB h2, h3, h4, h5, lst_mono h6 hB⟩
theorem MOwn.under {B g : Nat} {w : World} {a : Option Addr} {l : List M} (h : MOwn B w a l) (hg : g < B) (cs : Array Value) : MOwn B (w.setRow g cs) a l := fun i hi => by
  obtain ⟨p, h1, h2, h3, h4, h5, h6⟩ := h i hi
  refine ⟨p, h1, h2, by simpa using h3, fun j v hv => ?_, h5, lst_under h6 hg cs⟩
  have hne : ((p.add (i * 25)).add j).block ≠ g := by rw [add_block, add_block]; omega
  have hb : Below (g + 1) (w.setRow g cs) (w.setRow g cs) := Below.refl _ _
  have := h4 j v hv
  unfold World.cell? at this ⊢
  rw [setRow_other w g _ cs hne]
  exact this
/-- What a step answers: what is known, messages (the list and their Subs are the call's own), an error. -/
def AnsC (p : Kx × List M × Int) (w : World) (e : Ending) (w' : World) : Prop :=
  ∃ a c l, e = .returned (.tuple #[.agg p.1.cells, .slice a l.length c, .int .i64 p.2.2]) ∧ PlL l p.2.1 ∧ MOwn w.heap.size w' a l ∧ Below w.heap.size w w'
theorem AnsC.no {p : Kx × List M × Int} {w w' : World} {c : Kx} {d : Int} (h : p = (c, [], d)) (hb : Below w.heap.size w w') : AnsC p w (.returned (.tuple #[.agg c.cells, .slice none 0 0, .int .i64 d])) w' := by
  subst h
  exact ⟨none, 0, [], rfl, PlL.nil, MOwn.nil _ _ _, hb⟩
theorem one_new {B : Nat} {w : World} {n : M} (h : n.ll = []) (hl : Sx.Lst B w (.slice n.sa n.sl.length n.sc) n.sl) (hB : B ≤ w.heap.size) : MOwn B (w.alloc (.cells n.cells 38)) (some ⟨w.heap.size, 0, none⟩) [n] := by
  intro i hi
  obtain rfl : i = 0 := by (simp at hi; exact hi)
  refine ⟨_, rfl, hB, by rw [alloc_size]; exact Nat.lt_succ_self _, fun j v hv => ?_, h, hl.below (balloc (Below.refl _ w) _)⟩
  have := cells_new n w j v hv
  rw [add_at] at this
  rw [add_at, add_at, Nat.zero_mul, Nat.add_zero]
  exact this
theorem AnsC.one {p : Kx × List M × Int} {w w' : World} {a : Option Addr} {c : Kx} {m n : M} {k : Nat} (h : p = (c, [m], 0)) (hp : Pl n m) (hn : MOwn w.heap.size w' a [n]) (hb : Below w.heap.size w w') : AnsC p w (.returned (.tuple #[.agg c.cells, .slice a 1 k, .int .i64 0])) w' := by
  subst h
  exact ⟨a, k, [n], rfl, PlL.one hp, hn, hb⟩

section
variable {H : Type} {enc : TypeId × Value → H} {W : World}
theorem open_msgP {fuel : Nat} {cs : List Value} {x : DataW H × List MemPlace} (h : DataW.trod enc Tryz.prog W 0 (fun _ => true) true fuel 38 cs = some x) :
    ∃ m : M, cs = m.cells.toList ∧ DRow W m.la m.ll ∧ SRow W m.sa m.sl ∧ m.pfx.size ≤ maxLen := by
  obtain ⟨m, rfl, hd, hs⟩ := open_msg h
  refine ⟨m, rfl, hd, hs, ?_⟩
  obtain ⟨_, n, go⟩ := each_field Tryz.underlying38 (by kernel_rfl) h
  obtain ⟨y6, h6⟩ := go 6 _ rfl
  obtain ⟨k6, e6, _, z6⟩ := DataW.trod_string Tryz.underlying9 (show DataW.trod enc Tryz.prog W 0 (fun _ => true) true n 9 [.string m.pfx] = some y6 from h6)
  have e : m.pfx = k6 := by
    have := (List.cons.inj e6).1
    injection this
  rw [e]
  exact z6
end
end Go.Proofs.YtjhfpobjbijcpaaGreatDoor.Kb
namespace Go.Proofs.YtjhfpobjbijcpaaGreatDoor.Tc
open Go.RowKit Go.ChangeShapes Go.WideShapes Go.Joins
set_option maxRecDepth 100000

/-- What the variable has. -/
structure Tab (w : World) : Prop where
  a0 : w.cell? ⟨0, 0, none⟩ = some (.int .i64 0)
  a1 : w.cell? ⟨0, 1, none⟩ = some (.int .i64 4)
  a2 : w.cell? ⟨0, 2, none⟩ = some (.int .i64 16)
  a3 : w.cell? ⟨0, 3, none⟩ = some (.int .i64 8)
  s0 : w.cell? ⟨1, 0, none⟩ = some (.int .i64 0)
  s1 : w.cell? ⟨1, 1, none⟩ = some (.int .i64 0)
  s2 : w.cell? ⟨1, 2, none⟩ = some (.int .i64 0)
  s3 : w.cell? ⟨1, 3, none⟩ = some (.int .i64 32)
  s4 : w.cell? ⟨1, 4, none⟩ = some (.int .i64 0)
  s5 : w.cell? ⟨1, 5, none⟩ = some (.int .i64 128)
  s6 : w.cell? ⟨1, 6, none⟩ = some (.int .i64 64)
  s7 : w.cell? ⟨1, 7, none⟩ = some (.int .i64 128)
theorem ga : Tryz.prog.globalNamed "roadbook/field.addrSizes" = some 0 := by kernel_rfl
theorem ta : (Tryz.prog.globals[0]?).map (·.type) = some 136 := by kernel_rfl
theorem g0 : Tryz.prog.globalNamed "roadbook/route.spans" = some 1 := by kernel_rfl
theorem t0 : (Tryz.prog.globals[1]?).map (·.type) = some 139 := by kernel_rfl
theorem eight {α : Type} (l : List α) (h : l.length = 8) : ∃ a b c d e f g i, l = [a, b, c, d, e, f, g, i] := by
  match l, h with
  | [a, b, c, d, e, f, g, i], _ => exact ⟨a, b, c, d, e, f, g, i, rfl⟩
theorem of_laid {w : World} (h : laidMetH Tryz.prog [("roadbook/field.addrSizes", Rows.laid_roadbook_field_addrSizes), ("roadbook/route.spans", Rows.laid_roadbook_route_spans)] w) : Tab w := by
  have h : laidMet Tryz.prog [("roadbook/field.addrSizes", Rows.laid_roadbook_field_addrSizes), ("roadbook/route.spans", Rows.laid_roadbook_route_spans)] w := by
    rw [MakeChecks.laidMetH_plain _ _ _ (by kernel_rfl)] at h; exact h
  have ha : Lib.TabIs Tryz.prog w "roadbook/field.addrSizes" .i64 [0, 4, 16, 8] := Lib.tabIs_of_head ga ta Tryz.underlying136 Tryz.underlying3 (by kernel_rfl) (by kernel_rfl) (rest := _) (by exact h)
  have h := h.tail
  obtain ⟨ps, ⟨g', t', cs, f, p, q, hg', ht', hv, hd, _, _⟩, _⟩ := h
  obtain rfl := Option.some.inj (g0.symm.trans hg')
  obtain rfl := Option.some.inj (t0.symm.trans ht')
  have cS : Tryz.prog.cellsOf 138 = 2 := by kernel_rfl
  have cA : Tryz.prog.cellsOf 139 = 8 := by kernel_rfl
  have c3 : Tryz.prog.cellsOf 3 = 1 := by kernel_rfl
  obtain ⟨xs, m, _, ex, hl, hn, hel⟩ := DataW.trod_array Tryz.underlying139 hd
  rw [cA] at hl
  obtain ⟨a0, a1, a2, a3, a4, a5, a6, a7, hcs⟩ := eight _ hl
  have e0 := hel 0 (by decide)
  have e1 := hel 1 (by decide)
  have e2 := hel 2 (by decide)
  have e3 := hel 3 (by decide)
  rw [cS, hcs] at e0 e1 e2 e3
  match xs, hn, ex, e0, e1, e2, e3 with
  | [x0, x1, x2, x3], _, ex, e0, e1, e2, e3 =>
    simp only [List.drop_zero, List.take_succ_cons, List.take_zero, Nat.zero_mul, Nat.one_mul, Nat.reduceMul, List.drop_succ_cons, List.getElem?_cons_zero, List.getElem?_cons_succ] at e0 e1 e2 e3
    obtain ⟨y0, y1, n0, hx0, _, f0, f1⟩ := trod_struct2 Tryz.underlying138 e0
    obtain ⟨y2, y3, n1, hx1, _, f2, f3⟩ := trod_struct2 Tryz.underlying138 e1
    obtain ⟨y4, y5, n2, hx2, _, f4, f5⟩ := trod_struct2 Tryz.underlying138 e2
    obtain ⟨y6, y7, n3, hx3, _, f6, f7⟩ := trod_struct2 Tryz.underlying138 e3
    simp only [c3, List.drop_zero, List.take_succ_cons, List.take_zero, List.drop_succ_cons] at f0 f1 f2 f3 f4 f5 f6 f7
    obtain ⟨b0, q0, k0, _⟩ := DataW.trod_int Tryz.underlying3 f0
    obtain ⟨b1, q1, k1, _⟩ := DataW.trod_int Tryz.underlying3 f1
    obtain ⟨b2, q2, k2, _⟩ := DataW.trod_int Tryz.underlying3 f2
    obtain ⟨b3, q3, k3, _⟩ := DataW.trod_int Tryz.underlying3 f3
    obtain ⟨b4, q4, k4, _⟩ := DataW.trod_int Tryz.underlying3 f4
    obtain ⟨b5, q5, k5, _⟩ := DataW.trod_int Tryz.underlying3 f5
    obtain ⟨b6, q6, k6, _⟩ := DataW.trod_int Tryz.underlying3 f6
    obtain ⟨b7, q7, k7, _⟩ := DataW.trod_int Tryz.underlying3 f7
    subst k0 k1 k2 k3 k4 k5 k6 k7
    subst hx0 hx1 hx2 hx3
    simp [Rows.laid_roadbook_route_spans] at ex
    obtain ⟨⟨⟨r0, r1⟩, ⟨r2, r3⟩, ⟨r4, r5⟩, r6, r7⟩, _⟩ := ex
    simp only [List.cons.injEq, and_true] at q0 q1 q2 q3 q4 q5 q6 q7
    have hc : ∀ i, w.cell? ⟨1, i, none⟩ = cs.toList[i]? := fun i => by have := World.var?_cell g0 hv i; simpa using this
    rw [hcs] at hc
    subst q0 q1 q2 q3 q4 q5 q6 q7
    subst r0 r1 r2 r3 r4 r5 r6 r7
    exact ⟨ha.cell ga 0 (by decide), ha.cell ga 1 (by decide), ha.cell ga 2 (by decide), ha.cell ga 3 (by decide), hc 0, hc 1, hc 2, hc 3, hc 4, hc 5, hc 6, hc 7⟩
theorem Tab.pos {w : World} (h : Tab w) : 1 < w.heap.size := by
  have h0 := World.block_lt_of_cell? _ _ h.a0
  have h0 : 0 < w.heap.size := h0
  have h1 := World.block_lt_of_cell? _ _ h.s0
  have h1 : 1 < w.heap.size := h1
  omega
/-- .. and behind whatever leaves the first two blocks as they were. -/
theorem Tab.under {B : Nat} {w w' : World} (h : Tab w) (hb : Below B w w') (hB : 1 < B) : Tab w' := by
  have c : ∀ b i, b ≤ 1 → w'.cell? ⟨b, i, none⟩ = w.cell? ⟨b, i, none⟩ := fun b i hi => hb.cell (p := ⟨b, i, none⟩) (by show b < B; omega)
  exact ⟨(c _ _ (by decide)).trans h.a0, (c _ _ (by decide)).trans h.a1, (c _ _ (by decide)).trans h.a2, (c _ _ (by decide)).trans h.a3, (c _ _ (by decide)).trans h.s0, (c _ _ (by decide)).trans h.s1, (c _ _ (by decide)).trans h.s2, (c _ _ (by decide)).trans h.s3, (c _ _ (by decide)).trans h.s4, (c _ _ (by decide)).trans h.s5, (c _ _ (by decide)).trans h.s6, (c _ _ (by decide)).trans h.s7⟩
theorem Tab.below {w w' : World} (h : Tab w) (hb : Below w.heap.size w w') : Tab w' := h.under hb h.pos
end Go.Proofs.YtjhfpobjbijcpaaGreatDoor.Tc
namespace Go.Proofs.YtjhfpobjbijcpaaGreatDoor.F2
open Go.ChangeShapes Go.WideShapes Go.ChangeAt Go.RowKit
open Go.Proofs.YtjhfpobjbijcpaaGreatDoor.F1
open Go.Proofs.YtjhfpobjbijcpaaGreatDoor.Nu
open Go.Proofs.YtjhfpobjbijcpaaGreatDoor.Cur (numL)
open Go.Proofs.YtjhfpobjbijcpaaGreatDoor.Bk (Bk Sh loadVarK wpList_builtK wpList_loadK wpList_storeK run_loadK alloc_size)
open Go.Proofs.YtjhfpobjbijcpaaGreatDoor.Hs
open Go.Proofs.YtjhfpobjbijcpaaGreatDoor.Hx (conv8 ex_built H.storeRow)
set_option linter.unusedVariables false
set_option maxRecDepth 100000
set_option maxRecDepth 100000

theorem bcall {w W w1 : World} (h : Below w.heap.size w W) (hb : Below W.heap.size W w1) : Below w.heap.size w w1 := h.trans (hb.mono h.size)
theorem balloc {w W : World} (h : Below w.heap.size w W) (o : Obj) : Below w.heap.size w (W.alloc o) := h.alloc h.size o
theorem idx (b : ByteArray) (k : Nat) (i : Int) (hi : i = k) (h : k < b.size) (W : World) : (Instr.index 9 (.string b) (.int .i64 i)).run Tryz.prog W = .ok (.int .u8 (bt b k)) W := by
  subst hi
  rw [run_index_string W 9 b .i64 (k : Int) Tryz.underlying9, dif_pos ⟨by omega, by omega⟩, ← bt_eq b k h]
  rfl
theorem sl_m (s : ByteArray) (i j : Int) (lo hi : Nat) (hi' : i = lo) (hj : j = hi) (h1 : lo ≤ hi) (h2 : hi ≤ s.size) (W : World) :
    (Instr.slice 9 (.string s) (some (.int .i64 i)) (some (.int .i64 j)) none).run Tryz.prog W = .ok (.string (s.extract lo hi)) W := by
  subst hi' hj
  have := run_slice_string (P := Tryz.prog) W 9 s .i64 .i64 (lo : Int) (hi : Int) Tryz.underlying9 (by omega) (by omega) (by omega)
  simpa using this
theorem sl_l (s : ByteArray) (i : Int) (lo hi : Nat) (hi' : i = lo) (h1 : lo ≤ s.size) (hs : s.size = hi) (W : World) :
    (Instr.slice 9 (.string s) (some (.int .i64 i)) none none).run Tryz.prog W = .ok (.string (s.extract lo hi)) W := by
  subst hi' hs
  have := run_slice_string_l (P := Tryz.prog) (t := 9) (s := s) W Tryz.underlying9 .i64 (lo : Int) (by omega) (by omega)
  simpa using this
theorem results_head {P : Program} {fn : Func} {o p q r : Nat} {ty : TypeId} (h : fn.results = #[.tmp o, .cell p ty, .tmp q, .tmp r]) (tmps : Array Value) (w : World) (g : Nat) (u : Value)
    (y : Value) (hy : tmps.getD o undef = y) (hp : tmps.getD p undef = .pointer (some ⟨g, 0, none⟩)) (hl : (loadVar ty ⟨g, 0, none⟩).run P w = .ok u w) (v : Value) (hv : tmps.getD q undef = v) (x : Value) (hx : tmps.getD r undef = x) :
    (results fn tmps).run P w = .ok (.tuple #[y, u, v, x]) w := by
  have hy' : tmps[o]?.getD undef = y := by simpa using hy
  have hp' : tmps[p]?.getD undef = .pointer (some ⟨g, 0, none⟩) := by simpa using hp
  have hv' : tmps[q]?.getD undef = v := by simpa using hv
  have hx' : tmps[r]?.getD undef = x := by simpa using hx
  simp [results, h, hy', hp', hv', hx', asAddr, hl]

/-- The answer of Body. -/
def BodyIs (o : ByteArray × Int × Int) (w : World) (e : Ending) (w' : World) : Prop := e = .returned (.tuple #[.string o.1, .int .i64 o.2.1, .int .i64 o.2.2]) ∧ Below w.heap.size w w'
theorem out_bad {b : ByteArray} {i x : Int} (h : head b = some (i, x)) : outB b = (⟨#[]⟩, i, x) := by unfold outB; rw [h]
theorem out_good {b : ByteArray} (h : head b = none) : outB b = (b.extract 4 (4 + bodyN b), 0, 0) := by unfold outB; rw [h]
theorem head_long {b : ByteArray} (h : 65535 < b.size) : head b = some (65535, 10) := by unfold head; rw [if_pos h]
theorem head_short {b : ByteArray} (h : b.size < 4) : head b = some ((b.size : Int), 2) := by unfold head; rw [if_neg (by omega), if_pos h]
theorem head_kind {b : ByteArray} (h : ¬ 65535 < b.size) (h1 : ¬ b.size < 4) (h2 : ¬ bt b 0 = 42) : head b = some (0, 4) := by unfold head; rw [if_neg h, if_neg h1, if_pos h2]
theorem head_vers {b : ByteArray} (h : ¬ 65535 < b.size) (h1 : ¬ b.size < 4) (h2 : bt b 0 = 42) (h3 : ¬ bt b 1 = 2) : head b = some (1, 4) := by unfold head; rw [if_neg h, if_neg h1, if_neg (by omega), if_pos h3]
theorem head_few {b : ByteArray} (h : ¬ 65535 < b.size) (h1 : ¬ b.size < 4) (h2 : bt b 0 = 42) (h3 : bt b 1 = 2) (h4 : b.size < 4 + bodyN b) : head b = some ((b.size : Int), 2) := by
  have := bodyN_eq b
  unfold head; rw [if_neg h, if_neg h1, if_neg (by omega), if_neg (by omega), if_pos (by omega)]
theorem below_drewN {w W : World} (h : Below w.heap.size w W) : ∀ n, Below w.heap.size w (W.drewN n)
  | 0 => h
  | n + 1 => (below_drewN h n).drew
set_option maxHeartbeats 1600000 in
/-- The document's Body. -/
theorem rbody_any (b : ByteArray) (w : World) (hs : b.size ≤ maxLen) : Calls Tryz.prog 22 #[.string b] w (BodyIs (outB b) w) := by
  by_cases h : 65535 < b.size
  · rw [out_bad (head_long h)]
    have hb : (65535 : Int) < b.size := by omega
    unfold maxLen at hs
    clear h
    go_enter Tryz.func22, Tryz.ntmps22
    go_wp2
    go_ret3
    exact ⟨rfl, Below.refl _ _⟩
  have hb : (b.size : Int) ≤ 65535 := by omega
  clear hs
  by_cases h1 : b.size < 4
  · rw [out_bad (head_short h1)]
    have hb4 : (b.size : Int) < 4 := by omega
    clear h
    go_enter Tryz.func22, Tryz.ntmps22
    go_wp2
    go_ret3
    exact ⟨rfl, Below.refl _ _⟩
  have i0 := idx b 0 0 rfl (by omega)
  have hb4 : ¬ (b.size : Int) < 4 := by omega
  by_cases h2 : bt b 0 = 42
  rotate_left
  · rw [out_bad (head_kind h h1 h2)]
    have n0 := bt_nn b 0
    have l0 := bt_lt b 0
    clear h h1
    generalize bt b 0 = x at *
    go_enter Tryz.func22, Tryz.ntmps22
    go_wp2
    go_ret3
    exact ⟨rfl, Below.refl _ _⟩
  have i1 := idx b 1 1 rfl (by omega)
  by_cases h3 : bt b 1 = 2
  rotate_left
  · rw [out_bad (head_vers h h1 h2 h3)]
    rw [h2] at i0
    have n0 := bt_nn b 1
    have l0 := bt_lt b 1
    clear h h1 h2
    generalize bt b 1 = x at *
    go_enter Tryz.func22, Tryz.ntmps22
    go_wp2
    go_ret3
    exact ⟨rfl, Below.refl _ _⟩
  have i2 := idx b 2 2 rfl (by omega)
  have i3 := idx b 3 3 rfl (by omega)
  have v2 := conv8 (bt b 2) (bt_nn _ _) (bt_lt _ _)
  have v3 := conv8 (bt b 3) (bt_nn _ _) (bt_lt _ _)
  have n2 := bt_nn b 2
  have l2 := bt_lt b 2
  have n3 := bt_nn b 3
  have l3 := bt_lt b 3
  have hN := bodyN_eq b
  by_cases h4 : b.size < 4 + bodyN b
  · rw [out_bad (head_few h h1 h2 h3 h4)]
    rw [h2] at i0
    rw [h3] at i1
    have h5 : (b.size : Int) < 4 + (256 * bt b 2 + bt b 3) := by omega
    clear h h1 h2 h3 h4 hN
    generalize bt b 2 = x at *
    generalize bt b 3 = y at *
    go_enter Tryz.func22, Tryz.ntmps22
    go_wp2
    go_quiet (fail)
    go_wp2
    go_ret3
    exact ⟨rfl, below_drewN (Below.refl _ _) _⟩
  · rw [out_good (head_yes (by omega) (by omega) h2 h3 (by omega))]
    rw [h2] at i0
    rw [h3] at i1
    have h5 : ¬ (b.size : Int) < 4 + (256 * bt b 2 + bt b 3) := by omega
    have sl := sl_m b 4 (4 + (256 * bt b 2 + bt b 3)) 4 (4 + bodyN b) rfl (by push_cast; omega) (by omega) (by omega)
    generalize b.extract 4 (4 + bodyN b) = s at *
    clear h h1 h2 h3 h4 hN
    generalize bt b 2 = x at *
    generalize bt b 3 = y at *
    go_enter Tryz.func22, Tryz.ntmps22
    go_wp2
    go_quiet (fail)
    go_wp2
    go_ret3
    exact ⟨rfl, below_drewN (Below.refl _ _) _⟩
set_option maxHeartbeats 1600000 in
theorem rtrailer_any (b : ByteArray) (w : World) (hs : b.size ≤ maxLen) (h : head b = none) : Calls Tryz.prog 24 #[.string b] w fun e w' => e = .returned (.string (trail b)) ∧ Below w.heap.size w w' := by
  have PB := Lib.hid (fun V => rbody_any b V hs)
  rw [out_good h] at PB
  obtain ⟨k1, k2, _, _, k5⟩ := head_no h
  have hz : (b.extract 4 (4 + bodyN b)).size = bodyN b := by simp; omega
  have hn : (bodyN b : Int) ≤ 65535 := bodyN_le b
  have HT := Lib.hid (show b.extract (4 + bodyN b) b.size = trail b from rfl)
  have sl := sl_l b (4 + ((b.extract 4 (4 + bodyN b)).size : Int)) (4 + bodyN b) b.size (by rw [hz]; push_cast; rfl) k5 rfl
  have hzz : ((b.extract 4 (4 + bodyN b)).size : Int) ≤ 65535 := by rw [hz]; exact hn
  rw [HT.out] at sl
  clear h k1 k2 k5 hz hn hs HT
  generalize b.extract 4 (4 + bodyN b) = s at *
  go_enter Tryz.func24, Tryz.ntmps24
  go_wp2_with fail
  refine (PB.out _).mono ?_
  rintro e w1 ⟨rfl, hb⟩
  go_wp2
  go_ret
  exact ⟨rfl, hb⟩
end Go.Proofs.YtjhfpobjbijcpaaGreatDoor.F2
