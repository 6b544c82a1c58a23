/-
  Whether a message has few parts, of few bytes (the document's guard). No condition.
  A region that draws its order: the store of a whole struct at its end, a struct built, a string's byte, a conversion. No conditions.
  A block of one's own that holds a struct's cells, whatever struct it is; an entry's fields; what fields' bytes are. No conditions.
  A list of Subs of a call's own, one appended behind the other: its cells, and that its Subs stand in the world; one operation of a region that draws its order. No conditions.
  What stands beside a message's copy; the answer of a Get of messages with Subs alone: a message, whether it counts, an error; what few parts say. No conditions.
  Whether two lists of messages are the same: the program's answer (slices.EqualFunc) and the document's; whether a list has few messages. Condition: lists within of at most 2^20 elements.
  A list of messages of a call's own, one appended behind the other: its cells, and that its messages stand in the world. No conditions.
  One operation of a region that draws its order, by hand: one alone, or two that may come next. No conditions.
-/
import Derived.Test.YtjhfpobjbijcpaaDoorA01
import Derived.Test.YtjhfpobjbijcpaaDoorA03
import Derived.Test.YtjhfpobjbijcpaaDoorA04
import Derived.IntWalk
import Derived.Laws.Rows
import Derived.Laws.Tables
import Derived.OwnWalk
import Derived.Deep.WholeRow
import Derived.Deep.DeepCutAuto
import Derived.Deep.Cut
import Derived.Laws.AppendOwn
namespace Go.Proofs.YtjhfpobjbijcpaaDoor.Few
open Go.ChangeShapes Go.WideShapes Go.ChangeAt Go.RowKit
open Go.Proofs.YtjhfpobjbijcpaaDoor.Ms
open Go.Proofs.YtjhfpobjbijcpaaDoor.Box
open Go.Proofs.YtjhfpobjbijcpaaDoor.Same
open Go.Proofs.YtjhfpobjbijcpaaDoor.Cnt
set_option linter.unusedVariables false
set_option maxRecDepth 100000

def small (n : Nat) (l : List El) : Bool := l.all fun x => decide (x.1.size ≤ n)
theorem small_take (n : Nat) (l : List El) (k : Nat) (h : k < l.length) : small n (l.take (k + 1)) = (small n (l.take k) && decide (l[k].1.size ≤ n)) := by
  unfold small
  rw [List.take_succ_eq_append_getElem h, List.all_append]
  simp
theorem small_not (n : Nat) (l : List El) (k : Nat) (h : k < l.length) (hn : n < l[k].1.size) : small n l = false := by
  unfold small
  rw [List.all_eq_false]
  exact ⟨l[k], List.getElem_mem h, by simp; omega⟩
/-- Few parts, of few bytes? -/
def fewB (m : M) : Bool := decide (m.ll.length ≤ 300) && decide (m.sl.length ≤ 60) && decide (wrap64 ((m.auth.size : Int) + m.pfx.size) ≤ 200) && decide (wrap64 ((m.next.size : Int) + m.id.size) ≤ 200) && decide (wrap64 ((m.addr.size : Int) + m.orig.size) ≤ 200) && decide (m.data.size ≤ 300) && small 50 m.ll && small 300 m.sl
set_option maxHeartbeats 3200000 in
set_option maxRecDepth 100000 in
theorem few_any (m : M) (w : World) (hd : DRow w m.la m.ll) (hs : SRow w m.sa m.sl) :
    Calls Tryd.prog 8 #[.agg m.cells] w fun e w' => e = .returned (.bool (fewB m)) ∧ Below w.heap.size w w' := by
  have bel := balloc (Below.refl _ w) (.cells m.cells 34)
  have hd := hd.below (balloc (Below.refl _ w) (.cells m.cells 34))
  have hs := hs.below (balloc (Below.refl _ w) (.cells m.cells 34))
  have b0 := Bx.new w m
  have HFB := Lib.hid (show fewB m = (decide (m.ll.length ≤ 300) && decide (m.sl.length ≤ 60) && decide (wrap64 ((m.auth.size : Int) + m.pfx.size) ≤ 200) && decide (wrap64 ((m.next.size : Int) + m.id.size) ≤ 200) && decide (wrap64 ((m.addr.size : Int) + m.orig.size) ≤ 200) && decide (m.data.size ≤ 300) && small 50 m.ll && small 300 m.sl) from rfl)
  go_enter Tryd.func8, Tryd.ntmps8
  go_upto_region 1 with fail
  generalize w.alloc (.cells m.cells 34) = V at *
  have c3 := b0.cs.c3
  have c6 := b0.cs.c6
  have c9 := b0.cs.c9
  have c11 := b0.cs.c11
  have c19 := b0.cs.c19
  have c20 := b0.cs.c20
  have c21 := b0.cs.c21
  have c23 := b0.cs.c23
  have c24 := b0.cs.c24
  clear b0
  by_cases h1 : 300 < m.ll.length
  · go_wp2
    go_ret
    exact ⟨bool_eq (by rw [HFB.out]; simp; omega), bel⟩
  by_cases h2 : 60 < m.sl.length
  · go_wp2
    go_ret
    exact ⟨bool_eq (by rw [HFB.out]; simp; omega), bel⟩
  by_cases h3 : 200 < wrap64 ((m.auth.size : Int) + m.pfx.size)
  · go_wp2
    go_ret
    exact ⟨bool_eq (by rw [HFB.out]; simp; omega), bel⟩
  by_cases h4 : 200 < wrap64 ((m.next.size : Int) + m.id.size)
  · go_wp2
    go_ret
    exact ⟨bool_eq (by rw [HFB.out]; simp; omega), bel⟩
  by_cases h5 : 200 < wrap64 ((m.addr.size : Int) + m.orig.size)
  · go_wp2
    go_ret
    exact ⟨bool_eq (by rw [HFB.out]; simp; omega), bel⟩
  by_cases h6 : 300 < m.data.size
  · go_wp2
    go_ret
    exact ⟨bool_eq (by rw [HFB.out]; simp; omega), bel⟩
  have HF2 : Hid (fewB m = (small 50 m.ll && small 300 m.sl)) := Lib.hid (by rw [HFB.out]; simp [show m.ll.length ≤ 300 by omega, show m.sl.length ≤ 60 by omega, show wrap64 ((m.auth.size : Int) + m.pfx.size) ≤ 200 by omega, show wrap64 ((m.next.size : Int) + m.id.size) ≤ 200 by omega, show wrap64 ((m.addr.size : Int) + m.orig.size) ≤ 200 by omega, show m.data.size ≤ 300 by omega])
  clear HFB
  go_upto_region 3 with fail
  have l1 : m.ll.length ≤ 300 := by omega
  have l2 : m.sl.length ≤ 60 := by omega
  clear h1 h2 h3 h4 h5 h6 c3 c6 c9 c11 c19 c20 c23
  generalize m.ll = x at *
  generalize m.sl = y at *
  go_wp2
  go_loopw [3] (fun i wr => ∃ k : Nat, k ≤ x.length ∧ i = .int .i64 k ∧ Hid (small 50 (x.take k) = true) ∧ wr = V) (fun i _ => x.length - (intOf i).toNat)
  case atStart => exact ⟨0, Nat.zero_le _, rfl, Lib.hid rfl, rfl⟩
  case round =>
    obtain ⟨k, hk, rfl, HN, rfl⟩ := hrel
    by_cases hlt : k < x.length
    · obtain ⟨p, hp, _, d0, _⟩ := hd k hlt
      rw [hp] at c21
      have HT := Lib.hid (small_take 50 x k hlt)
      have HF := Lib.hid (small_not 50 x k hlt)
      clear hd hs hp c24
      generalize x[k] = u at *
      obtain ⟨s, n⟩ := u
      by_cases h1 : 50 < s.size
      · go_wp2
        go_ret
        exact ⟨bool_eq (by rw [HF2.out, HF.out h1]; simp), bel⟩
      · go_wp2
        go_roundw
        case rel => exact ⟨k + 1, hlt, by go_num, Lib.hid (by rw [HT.out, HN.out]; simp; omega), by first | rfl | trivial⟩
        case measure => simp [intOf]; omega
    · obtain rfl : k = x.length := by omega
      have HX : Hid (small 50 x = true) := Lib.hid (by have := HN.out; rwa [List.take_length] at this)
      clear HN hd
      go_wp2
      go_loopw [4] (fun i wr2 => ∃ k : Nat, k ≤ y.length ∧ i = .int .i64 k ∧ Hid (small 300 (y.take k) = true) ∧ wr2 = wr) (fun i _ => y.length - (intOf i).toNat)
      case atStart => exact ⟨0, Nat.zero_le _, rfl, Lib.hid rfl, rfl⟩
      case round =>
        obtain ⟨k, hk, rfl, HN, rfl⟩ := hrel
        by_cases hlt : k < y.length
        · obtain ⟨p, hp, _, _, d1⟩ := hs k hlt
          rw [hp] at c24
          have HT := Lib.hid (small_take 300 y k hlt)
          have HF := Lib.hid (small_not 300 y k hlt)
          clear hs hp c21
          rw [add_one] at d1
          generalize y[k] = u at *
          obtain ⟨s, n⟩ := u
          by_cases h1 : 300 < s.size
          · go_wp2
            go_ret
            exact ⟨bool_eq (by rw [HF2.out, HF.out h1]; simp), bel⟩
          · go_wp2
            go_roundw
            case rel => exact ⟨k + 1, hlt, by go_num, Lib.hid (by rw [HT.out, HN.out]; simp; omega), by first | rfl | trivial⟩
            case measure => simp [intOf]; omega
        · obtain rfl : k = y.length := by omega
          have HY : Hid (small 300 y = true) := Lib.hid (by have := HN.out; rwa [List.take_length] at this)
          clear HN hs
          go_wp2
          go_ret
          exact ⟨bool_eq (by rw [HF2.out, HX.out, HY.out]; rfl), bel⟩
end Go.Proofs.YtjhfpobjbijcpaaDoor.Few
namespace Go.Proofs.YtjhfpobjbijcpaaDoor.Hx
open Go.ChangeShapes Go.WideShapes Go.ChangeAt Go.RowKit
set_option linter.unusedVariables false
set_option maxRecDepth 100000
set_option maxRecDepth 100000

section
variable {P : Program} {ops : Array Oper} {Q : Exit → Act → World → Prop} {md : Region.Mode} {S : World → Prop}
end
theorem conv8 (n : Int) (h0 : 0 ≤ n) (h1 : n < 256) (W : World) : (convert 5 3 (.int .u8 n)).run Tryd.prog W = .ok (.int .i64 n) W := by
  rw [run_convert_int W 5 3 .u8 n (by rw [Tryd.underlying5]; rfl) Tryd.underlying3]
  have : (Tryd.prog.intKind 3).wrap n = n := by
    rw [show Tryd.prog.intKind 3 = .i64 by kernel_rfl]
    exact IntWalk.i64_in n (by omega)
  rw [this, show Tryd.prog.intKind 3 = .i64 by kernel_rfl]
end Go.Proofs.YtjhfpobjbijcpaaDoor.Hx
namespace Go.Proofs.YtjhfpobjbijcpaaDoor.Bk
open Go.ChangeShapes Go.WideShapes Go.ChangeAt Go.RowKit
open Go.Proofs.YtjhfpobjbijcpaaDoor.Cur
open Go.Proofs.YtjhfpobjbijcpaaDoor.Oct
set_option linter.unusedVariables false
set_option maxRecDepth 100000

theorem alloc_size (w : World) (o : Obj) : (w.alloc o).heap.size = w.heap.size + 1 := by show (w.heap.push o).size = _; simp
/-- Block b holds the cells cs of a struct of type t. -/
def Bk (t : TypeId) (w : World) (b : Nat) (cs : Array Value) : Prop := w.heap[b]? = some (.cells cs t (0, 0))
section
variable {t : TypeId} {w w' : World} {b : Nat} {cs cs' : Array Value}
theorem Bk.lt (h : Bk t w b cs) : b < w.heap.size := (Array.getElem?_eq_some_iff.1 h).1
theorem Bk.below (h : Bk t w b cs) (hb : Below w.heap.size w w') : Bk t w' b cs := (hb.block b h.lt).trans h
theorem Bk.under {B : Nat} (h : Bk t w b cs) (hb : Below B w w') (hB : b < B) : Bk t w' b cs := (hb.block b hB).trans h
theorem Bk.new (t : TypeId) (w : World) (cs : Array Value) : Bk t (w.alloc (.cells cs t)) w.heap.size cs := heap_alloc_new w _
theorem Bk.old (h : Bk t w b cs) (o : Obj) : Bk t (w.alloc o) b cs := (heap_alloc_old w o h.lt).trans h
theorem Bk.row {g : Nat} (h : Bk t w b cs) (hn : b ≠ g) (cs' : Array Value) : Bk t (w.setRow g cs') b cs := (setRow_other w g b cs' hn).trans h
theorem Bk.put (h : Bk t w b cs) (cs' : Array Value) : Bk t (w.setRow b cs') b cs' := setRow_heap w b cs cs' _ _ h
theorem Bk.set {i : Nat} {v : Value} (h : Bk t w b cs) (hm : cs.setIfInBounds i v = cs') : Bk t (w.setCell ⟨b, i, none⟩ v) b cs' := by
  have := heap_setCell_same w b i cs t v h
  rw [hm] at this
  exact this
theorem Bk.off (h : Bk t w b cs) {p : Addr} (hn : b ≠ p.block) (v : Value) : Bk t (w.setCell p v) b cs := (heap_setCell_other w p b v hn).trans h
theorem Bk.cell (h : Bk t w b cs) (j : Nat) (v : Value) (hv : cs[j]? = some v) : w.cell? ⟨b, j, none⟩ = some v := by
  rw [cell_of_row w b j cs _ _ h, hv]
theorem Bk.frozen (h : Bk t w b cs) (j : Nat) : w.frozen? ⟨b, j, none⟩ = false := frozen_of_row w b j cs _ h
end

/-- ty is a struct of n cells. -/
def Sh (P : Program) (ty : TypeId) (n : Nat) : Prop := ∃ fs, P.underlying ty = some (.struct fs) ∧ (P.info? ty).map (·.size) = some n
section
variable {P : Program}
theorem wpList_loadK {ops : Array Oper} {rest : List Oper} {o : Oper} {a : Act} {w : World} {Q : Exit → Act → World → Prop} {ty tb : TypeId} {n : Nat} (hs : Sh P ty n)
    (hgd : o.guard = none) (x : Operand) (ho : o.op = .load ty x) {b : Nat} (hx : a.eval x = .pointer (some ⟨b, 0, none⟩)) {cs : Array Value} (hb : Bk tb w b cs) (hn : cs.size = n)
    (h : wpList P ops Q rest (a.put o.dst (.agg cs)) w) : wpList P ops Q (o :: rest) a w := by
  subst hn
  obtain ⟨d, h1, h3⟩ := hs
  exact wpList_load_row hgd ty x ho b hx tb cs (0, 0) _ hb h1 rfl h3 h
theorem wpList_storeK {ops : Array Oper} {rest : List Oper} {o : Oper} {a : Act} {w : World} {Q : Exit → Act → World → Prop} {ty tb : TypeId} {n : Nat} (hs : Sh P ty n)
    (hgd : o.guard = none) (x y : Operand) (ho : o.op = .store ty x y) {b : Nat} (hx : a.eval x = .pointer (some ⟨b, 0, none⟩)) {cs cs' : Array Value} (hy : a.eval y = .agg cs') (hb : Bk tb w b cs) (hn : cs.size = n) (hn' : cs'.size = n) (h1 : (cs'.all fun x => x.oneCell') = true)
    (h : wpList P ops Q rest (a.put o.dst undef) (w.setRow b cs')) : wpList P ops Q (o :: rest) a w := by
  obtain ⟨d, _, h3⟩ := hs
  exact wpList_store_row hgd ty x y ho b cs' hx hy tb cs hb (by rw [h3, hn']) (by rw [hn, hn']) h1 h
theorem wpList_builtK {ops : Array Oper} {rest : List Oper} {o : Oper} {a : Act} {w : World} {Q : Exit → Act → World → Prop} (hg : o.guard = none) (t : TypeId) (parts : Array (Nat × Operand)) (ho : o.op = .build t parts)
    (cells : Array Value) (hc : P.built t (parts.map fun (i, x) => (i, a.eval x)).toList = some cells)
    (h : wpList P ops Q rest (a.put o.dst (.agg cells)) w) : wpList P ops Q (o :: rest) a w :=
  wpList_build hg t parts ho (by rw [hc]; rfl) (by rw [hc]; exact h)
theorem loadVarK {w : World} {b n : Nat} {ty tb : TypeId} {cs : Array Value} (hs : Sh P ty n) (h : Bk tb w b cs) (hn : cs.size = n) : (loadVar ty ⟨b, 0, none⟩).run P w = .ok (.agg cs) w := by
  subst hn
  obtain ⟨d, h1, h3⟩ := hs
  exact run_loadVar_row w b tb ty cs (0, 0) _ h h1 rfl h3
theorem run_loadK {o : Oper} {ρ : Operand → Value} {x : Operand} {b n : Nat} {ty tb : TypeId} {cs : Array Value} {w : World} (hs : Sh P ty n) (ho : o.op = .load ty x) (hx : ρ x = .pointer (some ⟨b, 0, none⟩)) (hb : Bk tb w b cs) (hn : cs.size = n) :
    (execOp ρ o).run P w = .ok (.value (.agg cs)) w := by
  unfold execOp
  simp only [ho, hx, Instr.loadAt, Instr.sureAddr, Sem.run_bind, Sem.run_pure, Result.andThen_ok, loadVarK hs hb hn]
end

end Go.Proofs.YtjhfpobjbijcpaaDoor.Bk
namespace Go.Proofs.YtjhfpobjbijcpaaDoor.Sx
open Go.ChangeShapes Go.WideShapes Go.ChangeAt Go.RowKit
open Go.Proofs.YtjhfpobjbijcpaaDoor.Ms
open Go.Proofs.YtjhfpobjbijcpaaDoor.Bk (Bk Sh)
set_option linter.unusedVariables false
set_option maxRecDepth 100000
set_option maxRecDepth 100000

/-- A Sub's cells. -/
def cellsS (x : El) : Array Value := #[.int .i64 x.2, .string x.1]
section
variable {P : Program} {ops : Array Oper} {Q : Exit → Act → World → Prop} {md : Region.Mode} {S : World → Prop}
end
section
variable {ops : Array Oper} {Q : Exit → Act → World → Prop} {md : Region.Mode} {S : World → Prop}
end
end Go.Proofs.YtjhfpobjbijcpaaDoor.Sx
namespace Go.Proofs.YtjhfpobjbijcpaaDoor.An
open Go.ChangeShapes Go.WideShapes Go.ChangeAt Go.RowKit
open Go.Proofs.YtjhfpobjbijcpaaDoor.Ms
open Go.Proofs.YtjhfpobjbijcpaaDoor.Box
set_option linter.unusedVariables false
set_option maxRecDepth 100000
set_option maxRecDepth 100000
/-- What stays: the message's copy, its lists. -/
structure Fs (w W : World) (g : Nat) (f : M) : Prop where
  m : Bx W g f
  i : f.In W
  bel : Below w.heap.size w W
theorem Fs.call {w W w' : World} {g : Nat} {f : M} (h : Fs w W g f) (hb : Below W.heap.size W w') : Fs w w' g f := ⟨h.m.below hb, h.i.below hb, h.bel.trans (hb.mono h.bel.size)⟩
theorem Fs.new (w : World) (m : M) (hm : m.In w) : Fs w (w.alloc (.cells m.cells 34)) w.heap.size m := ⟨Bx.new w m, hm.below (balloc (Below.refl _ w) _), balloc (Below.refl _ w) _⟩
theorem Fs.drew {w W : World} {g : Nat} {f : M} (h : Fs w W g f) : Fs w W.drew g f := ⟨h.m, ⟨h.i.d, h.i.s, h.i.dl, h.i.sl⟩, h.bel.drew⟩
theorem few_parts {m : M} (h : Few.fewB m = true) : m.ll.length ≤ 300 ∧ m.sl.length ≤ 60 ∧ ∀ x ∈ m.sl, x.1.size ≤ 1099511627776 := by
  unfold Few.fewB at h
  simp only [Bool.and_eq_true, decide_eq_true_eq] at h
  refine ⟨h.1.1.1.1.1.1.1, h.1.1.1.1.1.1.2, fun x hx => ?_⟩
  have h2 := h.2
  unfold Few.small at h2
  rw [List.all_eq_true] at h2
  have := h2 x hx
  rw [decide_eq_true_eq] at this
  omega
end Go.Proofs.YtjhfpobjbijcpaaDoor.An
namespace Go.Proofs.YtjhfpobjbijcpaaDoor.All
open Go.ChangeShapes Go.WideShapes Go.ChangeAt Go.RowKit
open Go.Proofs.YtjhfpobjbijcpaaDoor.Ms
open Go.Proofs.YtjhfpobjbijcpaaDoor.Box
open Go.Proofs.YtjhfpobjbijcpaaDoor.Same
open Go.Proofs.YtjhfpobjbijcpaaDoor.SameP
open Go.Proofs.YtjhfpobjbijcpaaDoor.Hs
open Go.Proofs.YtjhfpobjbijcpaaDoor.Few
set_option linter.unusedVariables false
set_option maxRecDepth 100000

/-- The messages of a list stand in w. -/
def MRow (w : World) (a : Option Addr) (l : List M) : Prop :=
  ∀ i (h : i < l.length), ∃ p, a = some p ∧ p.block < w.heap.size ∧ (∀ j v, (l[i].cells.toList)[j]? = some v → w.cell? ((p.add (i * 25)).add j) = some v) ∧ DRow w l[i].la l[i].ll ∧ SRow w l[i].sa l[i].sl
theorem MRow.below {w w' : World} {a : Option Addr} {l : List M} (h : MRow w a l) (hb : Below w.heap.size w w') : MRow w' a l := by
  intro i hi
  obtain ⟨p, h1, h2, h3, h4, h5⟩ := h i hi
  refine ⟨p, h1, Nat.lt_of_lt_of_le h2 hb.size, fun j v hv => ?_, h4.below hb, h5.below hb⟩
  rw [hb.cell (by rw [add_block, add_block]; exact h2)]
  exact h3 j v hv
theorem MRow.nil (w : World) (a : Option Addr) : MRow w a [] := fun i hi => absurd hi (by simp)
theorem loadVarA {w : World} {q : Addr} {m : M} (h : ∀ j v, (m.cells.toList)[j]? = some v → w.cell? (q.add j) = some v) : (loadVar 34 q).run Tryd.prog w = .ok (.agg m.cells) w := by
  have hl : (loadCells q 25).run Tryd.prog w = .ok m.cells w := by
    have := run_loadCells_list (P := Tryd.prog) w q m.cells.toList h
    rw [show m.cells.toList.length = 25 from rfl] at this
    rw [this]
  have hagg : (isAgg 34).run Tryd.prog w = .ok true w := by go_simp
  have hsz : (sizeOf 34).run Tryd.prog w = .ok 25 w := by go_simp
  simp only [loadVar, Sem.run_bind, hagg, Result.andThen_ok, if_true, hsz, hl, Sem.run_pure]
theorem ex_loadA {o : Oper} {ρ : Operand → Value} {x : Operand} {q : Addr} {m : M} {w : World} (ho : o.op = .load 34 x) (hx : ρ x = .pointer (some q)) (h : ∀ j v, (m.cells.toList)[j]? = some v → w.cell? (q.add j) = some v) :
    (execOp ρ o).run Tryd.prog w = .ok (.value (.agg m.cells)) w := by
  unfold execOp
  simp only [ho, hx, Instr.loadAt, Instr.sureAddr, Sem.run_bind, Sem.run_pure, Result.andThen_ok, loadVarA h]
theorem wpList_loadA {ops : Array Oper} {rest : List Oper} {o : Oper} {a : Act} {w : World} {Q : Exit → Act → World → Prop} (hgd : o.guard = none) (x : Operand) (ho : o.op = .load 34 x)
    {q : Addr} (hx : a.eval x = .pointer (some q)) {m : M} (hm : ∀ j v, (m.cells.toList)[j]? = some v → w.cell? (q.add j) = some v)
    (h : wpList Tryd.prog ops Q rest (a.put o.dst (.agg m.cells)) w) : wpList Tryd.prog ops Q (o :: rest) a w :=
  wpList_plain hgd fun K hK => by
    unfold Oper.wp
    rw [ex_loadA ho hx hm]
    exact hK _ _ h

theorem indexM (p : Addr) (n c i : Nat) (h : i < n) (W : World) : (Instr.indexAt 22 (.slice (some p) n c) (.int .i64 (i : Int))).run Tryd.prog W = .ok (.pointer (some (p.add (i * 25)))) W := by
  have he : Tryd.prog.elem 22 = 34 := by simp [Program.elem, Tryd.underlying22]
  have hz : (sizeOf 34).run Tryd.prog W = .ok 25 W := by go_simp
  rw [run_indexAt_slice W 22 p n c .i64 (i : Int) (by rw [he]; exact Tryd.underlying22), if_pos (by omega), he, hz]
  rfl

/-- Few messages, each of few parts? -/
def fewL (l : List M) (n : Int) : Bool := decide ((l.length : Int) ≤ n) && l.all fewB
theorem all_take (l : List M) (k : Nat) (h : k < l.length) : (l.take (k + 1)).all fewB = ((l.take k).all fewB && fewB l[k]) := by
  rw [List.take_succ_eq_append_getElem h, List.all_append]
  simp
theorem all_not (l : List M) (k : Nat) (h : k < l.length) (hn : fewB l[k] = false) : l.all fewB = false := by
  rw [List.all_eq_false]
  exact ⟨l[k], List.getElem_mem h, by rw [hn]; simp⟩

set_option maxHeartbeats 3200000 in
theorem fewAll_any (a : Option Addr) (c : Nat) (l : List M) (n : Int) (w : World) (hl : MRow w a l) (hn : l.length ≤ 9223372036854775807) :
    Calls Tryd.prog 4 #[.slice a l.length c, .int .i64 n] w fun e w' => e = .returned (.bool (fewL l n)) ∧ Below w.heap.size w w' := by
  have HFL := Lib.hid (show fewL l n = (decide ((l.length : Int) ≤ n) && l.all fewB) from rfl)
  go_enter Tryd.func4, Tryd.ntmps4
  by_cases h0 : n < (l.length : Int)
  · go_wp2
    go_ret
    exact ⟨bool_eq (by rw [HFL.out]; simp; omega), Below.refl _ _⟩
  have HF2 : Hid (fewL l n = l.all fewB) := Lib.hid (by rw [HFL.out]; simp [show (l.length : Int) ≤ n by omega])
  clear HFL
  go_wp2
  clear h0
  go_loopw [5] (fun i wr => ∃ k : Nat, k ≤ l.length ∧ i = .int .i64 k ∧ Hid ((l.take k).all fewB = true) ∧ Hid (Below w.heap.size w wr)) (fun i _ => l.length - (intOf i).toNat)
  case atStart => exact ⟨0, Nat.zero_le _, rfl, Lib.hid rfl, Lib.hid (Below.refl _ _)⟩
  case round =>
    obtain ⟨k, hk, rfl, HN, HB⟩ := hrel
    by_cases hlt : k < l.length
    · obtain ⟨p, rfl, _, hc, hd, hs⟩ := (hl.below HB.out) k hlt
      have P := Lib.hid (few_any l[k] wr hd hs)
      have HT := Lib.hid (all_take l k hlt)
      have HF := Lib.hid (all_not l k hlt)
      have HC := Lib.hid hc
      clear hl hc hd hs
      generalize l[k] = u at *
      cases hu : fewB u
      · have HU := Lib.hid hu
        rw [hu] at P
        clear hu
        go_wp2_with (first | (refine wpList_loadA (m := u) rfl _ rfl rfl HC.out ?_))
        refine P.out.mono ?_
        rintro e w1 ⟨rfl, hb1⟩
        go_wp2
        go_ret
        exact ⟨bool_eq (by rw [HF2.out, HF.out HU.out]), bcall HB.out hb1⟩
      · have HU := Lib.hid hu
        rw [hu] at P
        clear hu
        go_wp2_with (first | (refine wpList_loadA (m := u) rfl _ rfl rfl HC.out ?_))
        refine P.out.mono ?_
        rintro e w1 ⟨rfl, hb1⟩
        have HB1 := Lib.hid (bcall HB.out hb1)
        clear hb1
        go_wp2
        go_roundw
        case rel => exact ⟨k + 1, hlt, by go_num, Lib.hid (by rw [HT.out, HN.out, HU.out]; rfl), HB1⟩
        case measure => simp [intOf]; omega
    · obtain rfl : k = l.length := by omega
      go_wp2
      go_ret
      exact ⟨bool_eq (by rw [HF2.out]; have := HN.out; rw [List.take_length] at this; exact this.symm), HB.out⟩

end Go.Proofs.YtjhfpobjbijcpaaDoor.All
namespace Go.Proofs.YtjhfpobjbijcpaaDoor.Ap
open Go.ChangeShapes Go.WideShapes Go.ChangeAt Go.RowKit
open Go.Proofs.YtjhfpobjbijcpaaDoor.Ms
open Go.Proofs.YtjhfpobjbijcpaaDoor.Box
open Go.Proofs.YtjhfpobjbijcpaaDoor.All
set_option linter.unusedVariables false
set_option maxRecDepth 100000
set_option maxRecDepth 100000

theorem build_one (m : M) (w : World) : (Instr.buildSlice 22 1 #[(0, .agg m.cells)]).run Tryd.prog w = .ok (.slice (some ⟨w.heap.size, 0, none⟩) 1 1) (w.alloc (.cells m.cells 34)) := by
  kernel_rfl
theorem ex_bs {o : Oper} {ρ : Operand → Value} {x : Operand} {m : M} {w : World} (ho : o.op = .buildSlice 22 1 #[(0, x)]) (hx : ρ x = .agg m.cells) :
    (execOp ρ o).run Tryd.prog w = .ok (.value (.slice (some ⟨w.heap.size, 0, none⟩) 1 1)) (w.alloc (.cells m.cells 34)) := by
  have e : ((#[(0, x)] : Array (Nat × Operand)).map fun (i, x) => (i, ρ x)) = #[(0, .agg m.cells)] := by simp [hx]
  unfold execOp
  simp only [ho, Sem.run_bind, e, build_one, Result.andThen_ok, Sem.run_pure]
theorem bs_one {ops : Array Oper} {rest : List Oper} {o : Oper} {a : Act} {w : World} {Q : Exit → Act → World → Prop} (hgd : o.guard = none) (x : Operand) (ho : o.op = .buildSlice 22 1 #[(0, x)])
    {m : M} (hx : a.eval x = .agg m.cells) (h : wpList Tryd.prog ops Q rest (a.put o.dst (.slice (some ⟨w.heap.size, 0, none⟩) 1 1)) (w.alloc (.cells m.cells 34))) : wpList Tryd.prog ops Q (o :: rest) a w :=
  wpList_plain hgd fun K hK => by
    unfold Oper.wp
    rw [ex_bs ho hx]
    exact hK _ _ h
theorem add_at (g o j : Nat) : (⟨g, o, none⟩ : Addr).add j = ⟨g, o + j, none⟩ := by
  unfold Addr.add
  split
  · rename_i h; rw [h]; rfl
  · rfl
theorem cells_new (m : M) (w : World) : ∀ j u, (m.cells.toList)[j]? = some u → (w.alloc (.cells m.cells 34)).cell? ((⟨w.heap.size, 0, none⟩ : Addr).add j) = some u := by
  intro j u hu
  have := (Bx.new w m).cell j u (by simpa using hu)
  rw [add_at, Nat.zero_add]
  exact this

end Go.Proofs.YtjhfpobjbijcpaaDoor.Ap
namespace Go.Proofs.YtjhfpobjbijcpaaDoor.Hy
open Go.ChangeShapes Go.WideShapes Go.ChangeAt Go.RowKit
open Go.Proofs.YtjhfpobjbijcpaaDoor.Ms
set_option linter.unusedVariables false
set_option maxRecDepth 100000
set_option maxRecDepth 100000
section
variable {P : Program} {ops : Array Oper} {Q : Exit → Act → World → Prop} {md : Region.Mode} {S : World → Prop}
theorem H.one {i : Nat} {o : Oper} {fuel : Nat} {listed : Array Bool} {a : Act} {w : World}
    (ho : ops[i]? = some o) (hw : Region.wanted o (yielded ops a.tmps) = true) (hr : Region.ready md ops listed = [i])
    (h : ∀ K : Act → World → Prop, Hid (∀ a' w', S w' → wpAnyH P md ops Q S fuel (listed.setIfInBounds i true) a' w' → K a' w') → Oper.wp P o a w K Q) : wpAnyH P md ops Q S (fuel + 1) listed a w := by
  refine wpAnyH_ready (rs := [i]) hr (by simp) ?_
  refine AllReadyH.cons ho (fun K hK => ?_) AllReadyH.nil
  rw [if_pos hw]
  exact h K (Lib.hid (fun a' w' hS hW => hK.out a' w' hS (fun _ => hW)))
theorem wp_valW {o : Oper} {a : Act} {w w' : World} {K : Act → World → Prop} {d : Nat} {v : Value} (hd : o.dst = some d) (hy : (execOp a.eval o).run P w = .ok (.value v) w') (h : K (a.put (some d) v) w') : Oper.wp P o a w K Q := by
  unfold Oper.wp
  rw [hy]
  simp only [Oper.upon, hd]
  exact h
end
end Go.Proofs.YtjhfpobjbijcpaaDoor.Hy
