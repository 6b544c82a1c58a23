/-
  A message in a variable of its own: its block holds the message's cells; loaded and stored whole, or field by field.
-/
import Derived.Test.YtgfjhemfhfdklaaEq
import Derived.Laws.Rows
import Derived.Laws.Tables
import Derived.OwnWalk
namespace Go.Proofs.Ytgfjhemfhfdklaa.Box
open Go.ChangeShapes Go.WideShapes Go.ChangeAt Go.RowKit
open Go.Proofs.Ytgfjhemfhfdklaa.Ms
set_option linter.unusedVariables false
set_option maxRecDepth 100000

theorem below_setRow {B : Nat} {a w : World} (h : Below B a w) {g : Nat} (hg : B ≤ g) (cs : Array Value) : Below B a (w.setRow g cs) :=
  h.trans ⟨rfl, rfl, rfl, by simp, fun k hk => setRow_other w g k cs (by omega)⟩

theorem wpList_built {P : Program} {ops : Array Oper} {rest : List Oper} {o : Oper} {a : Act} {w : World} {Q : Exit → Act → World → Prop} (hg : o.guard = none) (t : TypeId) (parts : Array (Nat × Operand)) (ho : o.op = .build t parts)
    (cells : Array Value) (hc : P.built t (parts.map fun (i, x) => (i, a.eval x)).toList = some cells)
    (h : wpList P ops Q rest (a.put o.dst (.agg cells)) w) : wpList P ops Q (o :: rest) a w :=
  wpList_build hg t parts ho (by rw [hc]; rfl) (by rw [hc]; exact h)

/-- Message m stands in block b. -/
def Bx (w : World) (b : Nat) (m : M) : Prop := w.heap[b]? = some (.cells m.cells 38 (0, 0))
theorem Bx.lt {w : World} {b : Nat} {m : M} (h : Bx w b m) : b < w.heap.size := (Array.getElem?_eq_some_iff.1 h).1
theorem Bx.below {w w' : World} {b : Nat} {m : M} (h : Bx w b m) (hb : Below w.heap.size w w') : Bx w' b m := (hb.block b h.lt).trans h
theorem Bx.new (w : World) (m : M) : Bx (w.alloc (.cells m.cells 38)) w.heap.size m := heap_alloc_new w _
theorem Bx.old {w : World} {b : Nat} {m : M} (h : Bx w b m) (o : Obj) : Bx (w.alloc o) b m := (heap_alloc_old w o h.lt).trans h
theorem Bx.row {w : World} {g b : Nat} {m : M} (h : Bx w b m) (hn : b ≠ g) (cs : Array Value) : Bx (w.setRow g cs) b m := (setRow_other w g b cs hn).trans h
theorem Bx.put {w : World} {b : Nat} {m m' : M} (h : Bx w b m) : Bx (w.setRow b m'.cells) b m' := setRow_heap w b m.cells m'.cells _ _ h
theorem Bx.set {w : World} {b i : Nat} {m m' : M} {v : Value} (h : Bx w b m) (hm : m.cells.setIfInBounds i v = m'.cells) : Bx (w.setCell ⟨b, i, none⟩ v) b m' := by
  have := heap_setCell_same w b i m.cells 38 v h
  rw [hm] at this
  exact this
theorem Bx.off {w : World} {b : Nat} {m : M} (h : Bx w b m) {p : Addr} (hn : b ≠ p.block) (v : Value) : Bx (w.setCell p v) b m := (heap_setCell_other w p b v hn).trans h
theorem Bx.cell {w : World} {b : Nat} {m : M} (h : Bx w b m) (j : Nat) (v : Value) (hv : m.cells[j]? = some v) : w.cell? ⟨b, j, none⟩ = some v := by
  rw [cell_of_row w b j m.cells _ _ h, hv]
theorem Bx.frozen {w : World} {b : Nat} {m : M} (h : Bx w b m) (j : Nat) : w.frozen? ⟨b, j, none⟩ = false := frozen_of_row w b j m.cells _ h

structure Cs (w : World) (b : Nat) (m : M) : Prop where
  c0 : w.cell? ⟨b, 0, none⟩ = some (.int .i64 m.kind)
  c1 : w.cell? ⟨b, 1, none⟩ = some (.int .i64 m.cmd)
  c2 : w.cell? ⟨b, 2, none⟩ = some (.int .i64 m.ver)
  c3 : w.cell? ⟨b, 3, none⟩ = some (.string m.auth)
  c4 : w.cell? ⟨b, 4, none⟩ = some (.int .i64 m.family)
  c5 : w.cell? ⟨b, 5, none⟩ = some (.int .i64 m.ae)
  c6 : w.cell? ⟨b, 6, none⟩ = some (.string m.pfx)
  c7 : w.cell? ⟨b, 7, none⟩ = some (.int .i64 m.plen)
  c8 : w.cell? ⟨b, 8, none⟩ = some (.int .i64 m.tag)
  c9 : w.cell? ⟨b, 9, none⟩ = some (.string m.next)
  c10 : w.cell? ⟨b, 10, none⟩ = some (.int .i64 m.metric)
  c11 : w.cell? ⟨b, 11, none⟩ = some (.string m.id)
  c12 : w.cell? ⟨b, 12, none⟩ = some (.int .i64 m.seq)
  c13 : w.cell? ⟨b, 13, none⟩ = some (.int .i64 m.seq2)
  c14 : w.cell? ⟨b, 14, none⟩ = some (.int .i64 m.interval)
  c15 : w.cell? ⟨b, 15, none⟩ = some (.int .i64 m.flags)
  c16 : w.cell? ⟨b, 16, none⟩ = some (.int .i64 m.hops)
  c17 : w.cell? ⟨b, 17, none⟩ = some (.int .i64 m.nonce)
  c18 : w.cell? ⟨b, 18, none⟩ = some (.int .i64 m.cost)
  c19 : w.cell? ⟨b, 19, none⟩ = some (.string m.addr)
  c20 : w.cell? ⟨b, 20, none⟩ = some (.string m.orig)
  c21 : w.cell? ⟨b, 21, none⟩ = some (.slice m.la m.ll.length m.lc)
  c22 : w.cell? ⟨b, 22, none⟩ = some (.int .i64 m.typ)
  c23 : w.cell? ⟨b, 23, none⟩ = some (.string m.data)
  c24 : w.cell? ⟨b, 24, none⟩ = some (.slice m.sa m.sl.length m.sc)
theorem Bx.cs {w : World} {b : Nat} {m : M} (h : Bx w b m) : Cs w b m := by
  constructor <;> exact h.cell _ _ rfl

theorem oneM (m : M) : (m.cells.all fun x => x.oneCell') = true := by simp [M.cells, M.list, M.subs, Value.oneCell']
theorem oneF (m : M) : (m.flat.all fun x => x.oneCell') = true := by simp [M.flat, Value.oneCell']
theorem infoM : (Try.prog.info? 38).map (·.size) = some 25 := by kernel_rfl
theorem wpList_loadM {ops : Array Oper} {rest : List Oper} {o : Oper} {a : Act} {w : World} {Q : Exit → Act → World → Prop} (hgd : o.guard = none) (x : Operand) (ho : o.op = .load 38 x)
    {b : Nat} (hx : a.eval x = .pointer (some ⟨b, 0, none⟩)) {m : M} (hb : Bx w b m)
    (h : wpList Try.prog ops Q rest (a.put o.dst (.agg m.cells)) w) : wpList Try.prog ops Q (o :: rest) a w :=
  wpList_load_row hgd 38 x ho b hx 38 m.cells (0, 0) _ hb Try.underlying38 rfl infoM h
theorem wpList_storeM {ops : Array Oper} {rest : List Oper} {o : Oper} {a : Act} {w : World} {Q : Exit → Act → World → Prop} (hgd : o.guard = none) (x y : Operand) (ho : o.op = .store 38 x y)
    {b : Nat} (hx : a.eval x = .pointer (some ⟨b, 0, none⟩)) {m m' : M} (hy : a.eval y = .agg m'.cells) (hb : Bx w b m)
    (h : wpList Try.prog ops Q rest (a.put o.dst undef) (w.setRow b m'.cells)) : wpList Try.prog ops Q (o :: rest) a w :=
  wpList_store_row hgd 38 x y ho b m'.cells hx hy 38 m.cells hb infoM rfl (oneM m') h
end Go.Proofs.Ytgfjhemfhfdklaa.Box
