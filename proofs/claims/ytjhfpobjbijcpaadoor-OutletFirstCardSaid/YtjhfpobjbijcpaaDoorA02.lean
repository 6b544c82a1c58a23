/-
  What a message is, field by field, its lists beside it, and what it is for two to be the same: definitions and facts on values alone.
  The lists of two messages, the program's comparison of them (slices.Equal) and the document's: whether they are the same. Condition: lists of at most 2^20 elements.
  A message in a variable of its own: its block holds the message's cells; loaded and stored whole, or field by field.
  Whether two messages are the same: the program's answer and the document's. Condition: lists of at most 2^20 elements.
-/
import Derived.Test.YtjhfpobjbijcpaaDoorRows
import Derived.WalkKit
import Derived.ProofKit
import Derived.OpenShut
import Derived.ShutString
import Derived.Below
import Derived.Lib.Hide
import Derived.WalkLawsBesides
import Derived.Outline
import Derived.RegionTactic
import Derived.Deep.RegionWith
import Derived.StillTailTactics
import Derived.Deep.RegionHeld3
import Derived.Deep.QuietTactic
import Derived.BigQuiet
import Derived.IntWalk
import Derived.Laws.StructEq
import Derived.Laws.Cells
import Derived.Laws.Rows
import Derived.Laws.Tables
import Derived.OwnWalk
import Derived.Deep.DeepCutAuto
import Derived.Deep.Cut
namespace Go.Proofs.YtjhfpobjbijcpaaDoor.Ms
open Go.ChangeShapes Go.WideShapes Go.ChangeAt Go.RowKit
set_option linter.unusedVariables false
set_option maxRecDepth 100000

/-- What stands in a list: a text and a number. -/
abbrev El := ByteArray × Int

/-- The elements of a list of Dest (text, number) stand in w. -/
def DRow (w : World) (a : Option Addr) (l : List El) : Prop :=
  ∀ i (h : i < l.length), ∃ p, a = some p ∧ p.block < w.heap.size ∧ w.cell? (p.add (i * 2)) = some (.string l[i].1) ∧ w.cell? ((p.add (i * 2)).add 1) = some (.int .i64 l[i].2)
/-- The elements of a list of Sub (number, text) stand in w. -/
def SRow (w : World) (a : Option Addr) (l : List El) : Prop :=
  ∀ i (h : i < l.length), ∃ p, a = some p ∧ p.block < w.heap.size ∧ w.cell? (p.add (i * 2)) = some (.int .i64 l[i].2) ∧ w.cell? ((p.add (i * 2)).add 1) = some (.string l[i].1)

theorem add_block (p : Addr) (n : Nat) : (p.add n).block = p.block := by unfold Addr.add; split <;> rfl

theorem DRow.below {w w' : World} {a : Option Addr} {l : List El} (h : DRow w a l) (hb : Below w.heap.size w w') : DRow w' a l := by
  intro i hi
  obtain ⟨p, h1, h2, h3, h4⟩ := h i hi
  refine ⟨p, h1, Nat.lt_of_lt_of_le h2 hb.size, ?_, ?_⟩
  · rw [hb.cell (by rw [add_block]; exact h2)]; exact h3
  · rw [hb.cell (by rw [add_block, add_block]; exact h2)]; exact h4
theorem SRow.below {w w' : World} {a : Option Addr} {l : List El} (h : SRow w a l) (hb : Below w.heap.size w w') : SRow w' a l := by
  intro i hi
  obtain ⟨p, h1, h2, h3, h4⟩ := h i hi
  refine ⟨p, h1, Nat.lt_of_lt_of_le h2 hb.size, ?_, ?_⟩
  · rw [hb.cell (by rw [add_block]; exact h2)]; exact h3
  · rw [hb.cell (by rw [add_block, add_block]; exact h2)]; exact h4
theorem DRow.nil (w : World) (a : Option Addr) : DRow w a [] := fun i hi => absurd hi (by simp)
theorem SRow.nil (w : World) (a : Option Addr) : SRow w a [] := fun i hi => absurd hi (by simp)

theorem take_two {α : Type} (x y : List α) (k : Nat) (hx : k < x.length) (hy : k < y.length) (h : x.take k = y.take k) (he : x[k] = y[k]) : x.take (k + 1) = y.take (k + 1) := by
  rw [List.take_succ_eq_append_getElem hx, List.take_succ_eq_append_getElem hy, h, he]

/-- A message. -/
structure M where
  kind : Int
  cmd : Int
  ver : Int
  auth : ByteArray
  family : Int
  ae : Int
  pfx : ByteArray
  plen : Int
  tag : Int
  next : ByteArray
  metric : Int
  id : ByteArray
  seq : Int
  seq2 : Int
  interval : Int
  flags : Int
  hops : Int
  nonce : Int
  cost : Int
  addr : ByteArray
  orig : ByteArray
  la : Option Addr
  ll : List El
  lc : Nat
  typ : Int
  data : ByteArray
  sa : Option Addr
  sl : List El
  sc : Nat

namespace M
def list (m : M) : Value := .slice m.la m.ll.length m.lc
def subs (m : M) : Value := .slice m.sa m.sl.length m.sc
def cells (m : M) : Array Value := #[.int .i64 m.kind, .int .i64 m.cmd, .int .i64 m.ver, .string m.auth, .int .i64 m.family, .int .i64 m.ae, .string m.pfx, .int .i64 m.plen, .int .i64 m.tag, .string m.next, .int .i64 m.metric, .string m.id, .int .i64 m.seq, .int .i64 m.seq2, .int .i64 m.interval, .int .i64 m.flags, .int .i64 m.hops, .int .i64 m.nonce, .int .i64 m.cost, .string m.addr, .string m.orig, m.list, .int .i64 m.typ, .string m.data, m.subs]
def flat (m : M) : Array Value := #[.int .i64 m.kind, .int .i64 m.cmd, .int .i64 m.ver, .string m.auth, .int .i64 m.family, .int .i64 m.ae, .string m.pfx, .int .i64 m.plen, .int .i64 m.tag, .string m.next, .int .i64 m.metric, .string m.id, .int .i64 m.seq, .int .i64 m.seq2, .int .i64 m.interval, .int .i64 m.flags, .int .i64 m.hops, .int .i64 m.nonce, .int .i64 m.cost, .string m.addr, .string m.orig, .int .i64 m.typ, .string m.data]
/-- The message's lists stand in w, and aren't long. -/
structure In (m : M) (w : World) : Prop where
  d : DRow w m.la m.ll
  s : SRow w m.sa m.sl
  dl : m.ll.length ≤ 1048576
  sl : m.sl.length ≤ 1048576
theorem In.below {m : M} {w w' : World} (h : m.In w) (hb : Below w.heap.size w w') : m.In w' := ⟨h.d.below hb, h.s.below hb, h.dl, h.sl⟩
/-- Are they the same, but for their lists? -/
def flatE (a b : M) : Bool := a.kind == b.kind && (a.cmd == b.cmd && (a.ver == b.ver && (a.auth.toList == b.auth.toList && (a.family == b.family && (a.ae == b.ae && (a.pfx.toList == b.pfx.toList && (a.plen == b.plen && (a.tag == b.tag && (a.next.toList == b.next.toList && (a.metric == b.metric && (a.id.toList == b.id.toList && (a.seq == b.seq && (a.seq2 == b.seq2 && (a.interval == b.interval && (a.flags == b.flags && (a.hops == b.hops && (a.nonce == b.nonce && (a.cost == b.cost && (a.addr.toList == b.addr.toList && (a.orig.toList == b.orig.toList && (a.typ == b.typ && a.data.toList == b.data.toList)))))))))))))))))))))
/-- Are they the same? -/
def same (a b : M) : Bool := flatE a b && (decide (a.ll = b.ll) && decide (a.sl = b.sl))
/-- A message without anything. -/
def zero : M := ⟨0, 0, 0, ByteArray.empty, 0, 0, ByteArray.empty, 0, 0, ByteArray.empty, 0, ByteArray.empty, 0, 0, 0, 0, 0, 0, 0, ByteArray.empty, ByteArray.empty, none, [], 0, 0, ByteArray.empty, none, [], 0⟩
end M

theorem eqF_int {P : Program} {W : World} {d : Nat} {f : Field} {fs : List Field} {xs ys : Array Value} {k k' : IntKind} {a b : Int} {r : Bool} (hn : f.name ≠ "_") (ht : P.underlying f.type = some (.int k'))
    (hx : (part f.type xs f.offset).run P W = .ok (.int k a) W) (hy : (part f.type ys f.offset).run P W = .ok (.int k b) W) (h : (Op.eqFields (d + 1) xs ys fs).run P W = .ok r W) :
    (Op.eqFields (d + 1) xs ys (f :: fs)).run P W = .ok (a == b && r) W := by
  simp only [Op.eqFields, ne_eq, hn, not_false_eq_true, if_true, Sem.run_bind, hx, hy, Result.andThen_ok, run_equalIn_int W d f.type k k' a b ht, Sem.run_ite, h, Sem.run_pure]
  cases a == b <;> simp
theorem eqF_str {P : Program} {W : World} {d : Nat} {f : Field} {fs : List Field} {xs ys : Array Value} {a b : ByteArray} {r : Bool} (hn : f.name ≠ "_") (ht : P.underlying f.type = some .string)
    (hx : (part f.type xs f.offset).run P W = .ok (.string a) W) (hy : (part f.type ys f.offset).run P W = .ok (.string b) W) (h : (Op.eqFields (d + 1) xs ys fs).run P W = .ok r W) :
    (Op.eqFields (d + 1) xs ys (f :: fs)).run P W = .ok (a.toList == b.toList && r) W := by
  simp only [Op.eqFields, ne_eq, hn, not_false_eq_true, if_true, Sem.run_bind, hx, hy, Result.andThen_ok, run_equalIn_string W d f.type a b ht, Sem.run_ite, h, Sem.run_pure]
  cases a.toList == b.toList <;> simp

theorem eqFlat (a b : M) (W : World) : (Op.equalIn 10000 87 (.agg a.flat) (.agg b.flat)).run Tryd.prog W = .ok (M.flatE a b) W := by
  have hf : Tryd.prog.underlying 87 = some (.struct (Tryd.prog.fieldsOf 87)) := by kernel_rfl
  have hp : Tryd.prog.stoodInHeld 87 = false := by kernel_rfl
  have he : M.flatE a b = (a.kind == b.kind && (a.cmd == b.cmd && (a.ver == b.ver && (a.auth.toList == b.auth.toList && (a.family == b.family && (a.ae == b.ae && (a.pfx.toList == b.pfx.toList && (a.plen == b.plen && (a.tag == b.tag && (a.next.toList == b.next.toList && (a.metric == b.metric && (a.id.toList == b.id.toList && (a.seq == b.seq && (a.seq2 == b.seq2 && (a.interval == b.interval && (a.flags == b.flags && (a.hops == b.hops && (a.nonce == b.nonce && (a.cost == b.cost && (a.addr.toList == b.addr.toList && (a.orig.toList == b.orig.toList && (a.typ == b.typ && (a.data.toList == b.data.toList && true))))))))))))))))))))))) := by
    unfold M.flatE; rw [Bool.and_true (a.data.toList == b.data.toList)]
  rw [run_equalIn_struct W 9999 87 a.flat b.flat hf hp, he]
  simp only [Program.fieldsOf, Tryd.underlying87]
  refine eqF_int (by decide) Tryd.underlying3 rfl rfl ?_
  refine eqF_int (by decide) Tryd.underlying3 rfl rfl ?_
  refine eqF_int (by decide) Tryd.underlying3 rfl rfl ?_
  refine eqF_str (by decide) Tryd.underlying9 rfl rfl ?_
  refine eqF_int (by decide) Tryd.underlying3 rfl rfl ?_
  refine eqF_int (by decide) Tryd.underlying3 rfl rfl ?_
  refine eqF_str (by decide) Tryd.underlying9 rfl rfl ?_
  refine eqF_int (by decide) Tryd.underlying3 rfl rfl ?_
  refine eqF_int (by decide) Tryd.underlying3 rfl rfl ?_
  refine eqF_str (by decide) Tryd.underlying9 rfl rfl ?_
  refine eqF_int (by decide) Tryd.underlying3 rfl rfl ?_
  refine eqF_str (by decide) Tryd.underlying9 rfl rfl ?_
  refine eqF_int (by decide) Tryd.underlying3 rfl rfl ?_
  refine eqF_int (by decide) Tryd.underlying3 rfl rfl ?_
  refine eqF_int (by decide) Tryd.underlying3 rfl rfl ?_
  refine eqF_int (by decide) Tryd.underlying3 rfl rfl ?_
  refine eqF_int (by decide) Tryd.underlying3 rfl rfl ?_
  refine eqF_int (by decide) Tryd.underlying3 rfl rfl ?_
  refine eqF_int (by decide) Tryd.underlying3 rfl rfl ?_
  refine eqF_str (by decide) Tryd.underlying9 rfl rfl ?_
  refine eqF_str (by decide) Tryd.underlying9 rfl rfl ?_
  refine eqF_int (by decide) Tryd.underlying3 rfl rfl ?_
  refine eqF_str (by decide) Tryd.underlying9 rfl rfl ?_
  rfl

theorem run_eqlFlat (a b : M) (W : World) : (binOp .eql 87 (.agg a.flat) (.agg b.flat)).run Tryd.prog W = .ok (.bool (M.flatE a b)) W := by
  rw [run_eql_struct, eqFlat]; rfl
theorem run_guardFlat (a b : M) (x y : Operand) (W : World) : (eqGuard .eql 87 x y (.agg a.flat) (.agg b.flat)).run Tryd.prog W = .ok () W := run_eqGuard_agg W .eql _ x y a.flat b.flat (by kernel_rfl)

def elE (x y : El) : Bool := decide (x = y)
theorem bytes_beq (a b : ByteArray) : (a.toList == b.toList) = decide (a = b) := by
  rw [← beq_toListBytes]
  by_cases h : a = b
  · subst h; rw [beq_toListBytes]; simp
  · have : (a == b) = false := by
      rw [beq_toListBytes]
      simp only [ByteArray.toList_eq, beq_eq_false_iff_ne, ne_eq]
      intro h2
      exact h (ByteArray.ext (Array.ext' h2))
    rw [this]; simp [h]
theorem elE_eq (x y : El) : elE x y = (x.1.toList == y.1.toList && (x.2 == y.2 && true)) := by
  obtain ⟨a, n⟩ := x
  obtain ⟨b, m⟩ := y
  unfold elE
  rw [bytes_beq, Bool.and_true]
  by_cases h1 : a = b <;> by_cases h2 : n = m <;> simp [h1, h2]
theorem elE_eq' (x y : El) : elE x y = (x.2 == y.2 && (x.1.toList == y.1.toList && true)) := by
  rw [elE_eq, Bool.and_true, Bool.and_true, Bool.and_comm]

theorem run_neqDest (x y : El) (W : World) : (binOp .neq 39 (.agg #[.string x.1, .int .i64 x.2]) (.agg #[.string y.1, .int .i64 y.2])).run Tryd.prog W = .ok (.bool (!elE x y)) W := by
  have hf : Tryd.prog.underlying 39 = some (.struct (Tryd.prog.fieldsOf 39)) := by kernel_rfl
  have hp : Tryd.prog.stoodInHeld 39 = false := by kernel_rfl
  have hq : (Op.equalIn 10000 39 (.agg #[.string x.1, .int .i64 x.2]) (.agg #[.string y.1, .int .i64 y.2])).run Tryd.prog W = .ok (elE x y) W := by
    rw [run_equalIn_struct W 9999 39 _ _ hf hp, elE_eq]
    simp only [Program.fieldsOf, Tryd.underlying39]
    refine eqF_str (by decide) Tryd.underlying9 rfl rfl ?_
    refine eqF_int (by decide) Tryd.underlying3 rfl rfl ?_
    rfl
  rw [run_neq_struct, hq]; rfl
theorem run_neqSub (x y : El) (W : World) : (binOp .neq 41 (.agg #[.int .i64 x.2, .string x.1]) (.agg #[.int .i64 y.2, .string y.1])).run Tryd.prog W = .ok (.bool (!elE x y)) W := by
  have hf : Tryd.prog.underlying 41 = some (.struct (Tryd.prog.fieldsOf 41)) := by kernel_rfl
  have hp : Tryd.prog.stoodInHeld 41 = false := by kernel_rfl
  have hq : (Op.equalIn 10000 41 (.agg #[.int .i64 x.2, .string x.1]) (.agg #[.int .i64 y.2, .string y.1])).run Tryd.prog W = .ok (elE x y) W := by
    rw [run_equalIn_struct W 9999 41 _ _ hf hp, elE_eq']
    simp only [Program.fieldsOf, Tryd.underlying41]
    refine eqF_int (by decide) Tryd.underlying3 rfl rfl ?_
    refine eqF_str (by decide) Tryd.underlying9 rfl rfl ?_
    rfl
  rw [run_neq_struct, hq]; rfl
theorem run_guardDest (x y : El) (o p : Operand) (W : World) : (eqGuard .neq 39 o p (.agg #[.string x.1, .int .i64 x.2]) (.agg #[.string y.1, .int .i64 y.2])).run Tryd.prog W = .ok () W := run_eqGuard_agg W .neq _ o p _ _ (by kernel_rfl)
theorem run_guardSub (x y : El) (o p : Operand) (W : World) : (eqGuard .neq 41 o p (.agg #[.int .i64 x.2, .string x.1]) (.agg #[.int .i64 y.2, .string y.1])).run Tryd.prog W = .ok () W := run_eqGuard_agg W .neq _ o p _ _ (by kernel_rfl)

theorem indexD (p : Addr) (n c i : Nat) (h : i < n) (W : World) : (Instr.indexAt 31 (.slice (some p) n c) (.int .i64 (i : Int))).run Tryd.prog W = .ok (.pointer (some (p.add (i * 2)))) W := by
  have he : Tryd.prog.elem 31 = 39 := by simp [Program.elem, Tryd.underlying31]
  have hz : (sizeOf 39).run Tryd.prog W = .ok 2 W := by go_simp
  rw [run_indexAt_slice W 31 p n c .i64 (i : Int) (by rw [he]; exact Tryd.underlying31), if_pos (by omega), he, hz]
  rfl
theorem indexS (p : Addr) (n c i : Nat) (h : i < n) (W : World) : (Instr.indexAt 32 (.slice (some p) n c) (.int .i64 (i : Int))).run Tryd.prog W = .ok (.pointer (some (p.add (i * 2)))) W := by
  have he : Tryd.prog.elem 32 = 41 := by simp [Program.elem, Tryd.underlying32]
  have hz : (sizeOf 41).run Tryd.prog W = .ok 2 W := by go_simp
  rw [run_indexAt_slice W 32 p n c .i64 (i : Int) (by rw [he]; exact Tryd.underlying32), if_pos (by omega), he, hz]
  rfl
theorem add_one (p : Addr) : p.add 1 = ⟨p.block, p.off + 1, none⟩ := rfl
theorem bool_eq {a b : Bool} (h : a = b) : Ending.returned (.bool a) = .returned (.bool b) := by rw [h]
theorem bcall {w W w1 : World} (h : Below w.heap.size w W) (hb : Below W.heap.size W w1) : Below w.heap.size w w1 := h.trans (hb.mono h.size)
theorem balloc {w W : World} (h : Below w.heap.size w W) (o : Obj) : Below w.heap.size w (W.alloc o) := h.alloc h.size o
end Go.Proofs.YtjhfpobjbijcpaaDoor.Ms
namespace Go.Proofs.YtjhfpobjbijcpaaDoor.Eq
open Go.ChangeShapes Go.WideShapes Go.ChangeAt Go.RowKit
open Go.Proofs.YtjhfpobjbijcpaaDoor.Ms
set_option linter.unusedVariables false
set_option maxRecDepth 100000

set_option maxHeartbeats 1600000 in
theorem dests_any (a b : Option Addr) (ca cb : Nat) (x y : List El) (w : World) (hx : DRow w a x) (hy : DRow w b y) (lx : x.length ≤ 1048576) (ly : y.length ≤ 1048576) :
    Calls Tryd.prog 56 #[.slice a x.length ca, .slice b y.length cb] w fun e w' => e = .returned (.bool (decide (x = y))) ∧ Below w.heap.size w w' := by
  by_cases hl : x.length = y.length
  · have HL := Lib.hid hl
    go_enter Tryd.func56, Tryd.ntmps56
    go_wp2
    go_loopw [13] (fun i wr => ∃ k : Nat, k ≤ x.length ∧ i = .int .i64 k ∧ Hid (x.take k = y.take k) ∧ Hid (Below w.heap.size w wr)) (fun i _ => x.length - (intOf i).toNat)
    case atStart => exact ⟨0, Nat.zero_le _, rfl, Lib.hid rfl, Lib.hid (Below.refl _ _)⟩
    case round =>
      obtain ⟨k, hk, rfl, HT, HB⟩ := hrel
      by_cases hlt : k < x.length
      · have hlt2 : k < y.length := by omega
        obtain ⟨p, rfl, _, c0, c1⟩ := (hx.below HB.out) k hlt
        obtain ⟨q, rfl, _, d0, d1⟩ := (hy.below HB.out) k hlt2
        have i0 := indexD p x.length ca k hlt
        have i1 := indexD q y.length cb k hlt2
        have g0 := run_neqDest x[k] y[k]
        have g1 := run_guardDest x[k] y[k]
        have HS := Lib.hid (take_two x y k hlt hlt2 HT.out)
        have HD := Lib.hid (show x = y → x[k] = y[k] from fun h => by simp [h])
        clear HT hx hy
        generalize x[k] = u at *
        generalize y[k] = v at *
        rw [add_one] at c1 d1
        by_cases he : u = v
        · have g2 : elE u v = true := by simp [elE, he]
          have HE := Lib.hid he
          clear he
          go_wp2
          go_quiet (fail)
          go_wp2
          go_roundw
          case rel => exact ⟨k + 1, hlt, by go_num, Lib.hid (HS.out HE.out), Lib.hid (below_drewN HB.out _)⟩
          case measure => simp [intOf]; omega
        · have g2 : elE u v = false := by simp [elE, he]
          have HE := Lib.hid he
          clear he
          go_wp2
          go_quiet (fail)
          go_wp2
          go_ret
          exact ⟨bool_eq (by simp; intro h; exact HE.out (HD.out h)), below_drewN HB.out _⟩
      · obtain rfl : k = x.length := by omega
        have he : x = y := by
          have h := HT.out
          rwa [List.take_length, HL.out, List.take_length] at h
        have HE := Lib.hid he
        clear he
        go_wp2
        go_ret
        exact ⟨bool_eq (by simpa using HE.out), HB.out⟩
  · go_enter Tryd.func56, Tryd.ntmps56
    go_wp2
    go_ret
    exact ⟨bool_eq (by simp; intro h; exact hl (by rw [h])), Below.refl _ _⟩
set_option maxHeartbeats 1600000 in
theorem subs_any (a b : Option Addr) (ca cb : Nat) (x y : List El) (w : World) (hx : SRow w a x) (hy : SRow w b y) (lx : x.length ≤ 1048576) (ly : y.length ≤ 1048576) :
    Calls Tryd.prog 57 #[.slice a x.length ca, .slice b y.length cb] w fun e w' => e = .returned (.bool (decide (x = y))) ∧ Below w.heap.size w w' := by
  by_cases hl : x.length = y.length
  · have HL := Lib.hid hl
    go_enter Tryd.func57, Tryd.ntmps57
    go_wp2
    go_loopw [13] (fun i wr => ∃ k : Nat, k ≤ x.length ∧ i = .int .i64 k ∧ Hid (x.take k = y.take k) ∧ Hid (Below w.heap.size w wr)) (fun i _ => x.length - (intOf i).toNat)
    case atStart => exact ⟨0, Nat.zero_le _, rfl, Lib.hid rfl, Lib.hid (Below.refl _ _)⟩
    case round =>
      obtain ⟨k, hk, rfl, HT, HB⟩ := hrel
      by_cases hlt : k < x.length
      · have hlt2 : k < y.length := by omega
        obtain ⟨p, rfl, _, c0, c1⟩ := (hx.below HB.out) k hlt
        obtain ⟨q, rfl, _, d0, d1⟩ := (hy.below HB.out) k hlt2
        have i0 := indexS p x.length ca k hlt
        have i1 := indexS q y.length cb k hlt2
        have g0 := run_neqSub x[k] y[k]
        have g1 := run_guardSub x[k] y[k]
        have HS := Lib.hid (take_two x y k hlt hlt2 HT.out)
        have HD := Lib.hid (show x = y → x[k] = y[k] from fun h => by simp [h])
        clear HT hx hy
        generalize x[k] = u at *
        generalize y[k] = v at *
        rw [add_one] at c1 d1
        by_cases he : u = v
        · have g2 : elE u v = true := by simp [elE, he]
          have HE := Lib.hid he
          clear he
          go_wp2
          go_quiet (fail)
          go_wp2
          go_roundw
          case rel => exact ⟨k + 1, hlt, by go_num, Lib.hid (HS.out HE.out), Lib.hid (below_drewN HB.out _)⟩
          case measure => simp [intOf]; omega
        · have g2 : elE u v = false := by simp [elE, he]
          have HE := Lib.hid he
          clear he
          go_wp2
          go_quiet (fail)
          go_wp2
          go_ret
          exact ⟨bool_eq (by simp; intro h; exact HE.out (HD.out h)), below_drewN HB.out _⟩
      · obtain rfl : k = x.length := by omega
        have he : x = y := by
          have h := HT.out
          rwa [List.take_length, HL.out, List.take_length] at h
        have HE := Lib.hid he
        clear he
        go_wp2
        go_ret
        exact ⟨bool_eq (by simpa using HE.out), HB.out⟩
  · go_enter Tryd.func57, Tryd.ntmps57
    go_wp2
    go_ret
    exact ⟨bool_eq (by simp; intro h; exact hl (by rw [h])), Below.refl _ _⟩
end Go.Proofs.YtjhfpobjbijcpaaDoor.Eq
namespace Go.Proofs.YtjhfpobjbijcpaaDoor.Box
open Go.ChangeShapes Go.WideShapes Go.ChangeAt Go.RowKit
open Go.Proofs.YtjhfpobjbijcpaaDoor.Ms
set_option linter.unusedVariables false
set_option maxRecDepth 100000

theorem below_setRow {B : Nat} {a w : World} (h : Below B a w) {g : Nat} (hg : B ≤ g) (cs : Array Value) : Below B a (w.setRow g cs) :=
  h.trans ⟨rfl, rfl, rfl, by simp, fun k hk => setRow_other w g k cs (by omega)⟩

theorem wpList_built {P : Program} {ops : Array Oper} {rest : List Oper} {o : Oper} {a : Act} {w : World} {Q : Exit → Act → World → Prop} (hg : o.guard = none) (t : TypeId) (parts : Array (Nat × Operand)) (ho : o.op = .build t parts)
    (cells : Array Value) (hc : P.built t (parts.map fun (i, x) => (i, a.eval x)).toList = some cells)
    (h : wpList P ops Q rest (a.put o.dst (.agg cells)) w) : wpList P ops Q (o :: rest) a w :=
  wpList_build hg t parts ho (by rw [hc]; rfl) (by rw [hc]; exact h)

/-- Message m stands in block b. -/
def Bx (w : World) (b : Nat) (m : M) : Prop := w.heap[b]? = some (.cells m.cells 34 (0, 0))
theorem Bx.lt {w : World} {b : Nat} {m : M} (h : Bx w b m) : b < w.heap.size := (Array.getElem?_eq_some_iff.1 h).1
theorem Bx.below {w w' : World} {b : Nat} {m : M} (h : Bx w b m) (hb : Below w.heap.size w w') : Bx w' b m := (hb.block b h.lt).trans h
theorem Bx.new (w : World) (m : M) : Bx (w.alloc (.cells m.cells 34)) w.heap.size m := heap_alloc_new w _
theorem Bx.old {w : World} {b : Nat} {m : M} (h : Bx w b m) (o : Obj) : Bx (w.alloc o) b m := (heap_alloc_old w o h.lt).trans h
theorem Bx.row {w : World} {g b : Nat} {m : M} (h : Bx w b m) (hn : b ≠ g) (cs : Array Value) : Bx (w.setRow g cs) b m := (setRow_other w g b cs hn).trans h
theorem Bx.put {w : World} {b : Nat} {m m' : M} (h : Bx w b m) : Bx (w.setRow b m'.cells) b m' := setRow_heap w b m.cells m'.cells _ _ h
theorem Bx.set {w : World} {b i : Nat} {m m' : M} {v : Value} (h : Bx w b m) (hm : m.cells.setIfInBounds i v = m'.cells) : Bx (w.setCell ⟨b, i, none⟩ v) b m' := by
  have := heap_setCell_same w b i m.cells 34 v h
  rw [hm] at this
  exact this
theorem Bx.off {w : World} {b : Nat} {m : M} (h : Bx w b m) {p : Addr} (hn : b ≠ p.block) (v : Value) : Bx (w.setCell p v) b m := (heap_setCell_other w p b v hn).trans h
theorem Bx.cell {w : World} {b : Nat} {m : M} (h : Bx w b m) (j : Nat) (v : Value) (hv : m.cells[j]? = some v) : w.cell? ⟨b, j, none⟩ = some v := by
  rw [cell_of_row w b j m.cells _ _ h, hv]
theorem Bx.frozen {w : World} {b : Nat} {m : M} (h : Bx w b m) (j : Nat) : w.frozen? ⟨b, j, none⟩ = false := frozen_of_row w b j m.cells _ h

structure Cs (w : World) (b : Nat) (m : M) : Prop where
  c0 : w.cell? ⟨b, 0, none⟩ = some (.int .i64 m.kind)
  c1 : w.cell? ⟨b, 1, none⟩ = some (.int .i64 m.cmd)
  c2 : w.cell? ⟨b, 2, none⟩ = some (.int .i64 m.ver)
  c3 : w.cell? ⟨b, 3, none⟩ = some (.string m.auth)
  c4 : w.cell? ⟨b, 4, none⟩ = some (.int .i64 m.family)
  c5 : w.cell? ⟨b, 5, none⟩ = some (.int .i64 m.ae)
  c6 : w.cell? ⟨b, 6, none⟩ = some (.string m.pfx)
  c7 : w.cell? ⟨b, 7, none⟩ = some (.int .i64 m.plen)
  c8 : w.cell? ⟨b, 8, none⟩ = some (.int .i64 m.tag)
  c9 : w.cell? ⟨b, 9, none⟩ = some (.string m.next)
  c10 : w.cell? ⟨b, 10, none⟩ = some (.int .i64 m.metric)
  c11 : w.cell? ⟨b, 11, none⟩ = some (.string m.id)
  c12 : w.cell? ⟨b, 12, none⟩ = some (.int .i64 m.seq)
  c13 : w.cell? ⟨b, 13, none⟩ = some (.int .i64 m.seq2)
  c14 : w.cell? ⟨b, 14, none⟩ = some (.int .i64 m.interval)
  c15 : w.cell? ⟨b, 15, none⟩ = some (.int .i64 m.flags)
  c16 : w.cell? ⟨b, 16, none⟩ = some (.int .i64 m.hops)
  c17 : w.cell? ⟨b, 17, none⟩ = some (.int .i64 m.nonce)
  c18 : w.cell? ⟨b, 18, none⟩ = some (.int .i64 m.cost)
  c19 : w.cell? ⟨b, 19, none⟩ = some (.string m.addr)
  c20 : w.cell? ⟨b, 20, none⟩ = some (.string m.orig)
  c21 : w.cell? ⟨b, 21, none⟩ = some (.slice m.la m.ll.length m.lc)
  c22 : w.cell? ⟨b, 22, none⟩ = some (.int .i64 m.typ)
  c23 : w.cell? ⟨b, 23, none⟩ = some (.string m.data)
  c24 : w.cell? ⟨b, 24, none⟩ = some (.slice m.sa m.sl.length m.sc)
theorem Bx.cs {w : World} {b : Nat} {m : M} (h : Bx w b m) : Cs w b m := by
  constructor <;> exact h.cell _ _ rfl

theorem oneM (m : M) : (m.cells.all fun x => x.oneCell') = true := by simp [M.cells, M.list, M.subs, Value.oneCell']
theorem oneF (m : M) : (m.flat.all fun x => x.oneCell') = true := by simp [M.flat, Value.oneCell']
theorem infoM : (Tryd.prog.info? 34).map (·.size) = some 25 := by kernel_rfl
theorem infoF : (Tryd.prog.info? 87).map (·.size) = some 23 := by kernel_rfl

theorem wpList_loadM {ops : Array Oper} {rest : List Oper} {o : Oper} {a : Act} {w : World} {Q : Exit → Act → World → Prop} (hgd : o.guard = none) (x : Operand) (ho : o.op = .load 34 x)
    {b : Nat} (hx : a.eval x = .pointer (some ⟨b, 0, none⟩)) {m : M} (hb : Bx w b m)
    (h : wpList Tryd.prog ops Q rest (a.put o.dst (.agg m.cells)) w) : wpList Tryd.prog ops Q (o :: rest) a w :=
  wpList_load_row hgd 34 x ho b hx 34 m.cells (0, 0) _ hb Tryd.underlying34 rfl infoM h
theorem wpList_storeM {ops : Array Oper} {rest : List Oper} {o : Oper} {a : Act} {w : World} {Q : Exit → Act → World → Prop} (hgd : o.guard = none) (x y : Operand) (ho : o.op = .store 34 x y)
    {b : Nat} (hx : a.eval x = .pointer (some ⟨b, 0, none⟩)) {m m' : M} (hy : a.eval y = .agg m'.cells) (hb : Bx w b m)
    (h : wpList Tryd.prog ops Q rest (a.put o.dst undef) (w.setRow b m'.cells)) : wpList Tryd.prog ops Q (o :: rest) a w :=
  wpList_store_row hgd 34 x y ho b m'.cells hx hy 34 m.cells hb infoM rfl (oneM m') h
end Go.Proofs.YtjhfpobjbijcpaaDoor.Box
namespace Go.Proofs.YtjhfpobjbijcpaaDoor.Same
open Go.ChangeShapes Go.WideShapes Go.ChangeAt Go.RowKit
open Go.Proofs.YtjhfpobjbijcpaaDoor.Ms
open Go.Proofs.YtjhfpobjbijcpaaDoor.Box
set_option linter.unusedVariables false
set_option maxRecDepth 100000

theorem alloc_size (w : World) (o : Obj) : (w.alloc o).heap.size = w.heap.size + 1 := by show (w.heap.push o).size = _; simp

set_option maxHeartbeats 1600000 in
set_option maxRecDepth 100000 in
theorem flatten_any (m : M) (w : World) :
    Calls Tryd.prog 55 #[.agg m.cells] w fun e w' => e = .returned (.agg m.flat) ∧ Below w.heap.size w w' := by
  have hb := Bx.new w m
  have hbel := balloc (Below.refl _ w) (.cells m.cells 34)
  have hsz := alloc_size w (.cells m.cells 34)
  go_enter Tryd.func55, Tryd.ntmps55
  go_upto_region 1 with fail
  generalize w.alloc (.cells m.cells 34) = W at *
  have hz : W.heap.size = w.heap.size + 1 := hsz
  have h2 := heap_alloc_new W (.cells M.zero.flat 87)
  rw [hz] at h2
  have hb2 := hb.old (.cells M.zero.flat 87)
  have hbel2 := balloc hbel (.cells M.zero.flat 87)
  clear hsz hz hb hbel
  change Code.wp _ _ _ _ (W.alloc (.cells M.zero.flat 87))
  generalize W.alloc (.cells M.zero.flat 87) = V at *
  clear W
  obtain ⟨c0, c1, c2, c3, c4, c5, c6, c7, c8, c9, c10, c11, c12, c13, c14, c15, c16, c17, c18, c19, c20, c21, c22, c23, c24⟩ := hb2.cs
  have H2 := Lib.hid h2
  clear h2 hb2 c21 c24
  go_wp2_with (first | (refine wpList_built rfl 87 _ rfl m.flat (by kernel_rfl) ?_) | (refine wpList_store_row rfl 87 _ _ rfl (w.heap.size + 1) m.flat rfl rfl 87 M.zero.flat H2.out infoF rfl (oneF m) ?_))
  exact bodyPost_ret (v := .agg m.flat) (results_cell_row (p := 2) (ty := 87) rfl _ _ (w.heap.size + 1) 87 m.flat (0, 0) _ rfl (setRow_heap V (w.heap.size + 1) M.zero.flat m.flat 87 _ H2.out) Tryd.underlying87 rfl infoF) rfl ⟨rfl, below_setRow hbel2 (by omega) _⟩
end Go.Proofs.YtjhfpobjbijcpaaDoor.Same
