/-
  What a message is, field by field, its lists beside it, and what it is for two to be the same: definitions and facts on values alone. The lists of two messages, the program's comparison of them (slices.Equal) and the document's: whether they are the same. Condition: lists of at most 2^20 elements. A message in a variable of its own: its block holds the message's cells; loaded and stored whole, or field by field. A region that draws its order, walked in the text's order: what reads is taken first, in whatever world that meets one condition. Whether two messages are the same: the program's answer and the document's. Condition: lists of at most 2^20 elements. Whether two messages are the same: the program's answer. Condition: lists of at most 2^20 elements.
  A long condition 'x.f != y.f || x.g != y.g || ..' over two messages, walked over a frame that is a variable: no way is parted. Whether two messages are the same: the document's answer. Condition: lists of at most 2^20 elements.
-/
import Derived.Test.YteecialdkfaejaaGreatDoorRows
import Derived.WalkKit
import Derived.ProofKit
import Derived.OpenShut
import Derived.ShutString
import Derived.Below
import Derived.Lib.Hide
import Derived.WalkLawsBesides
import Derived.Outline
import Derived.RegionTactic
import Derived.Deep.RegionWith
import Derived.StillTailTactics
import Derived.Deep.RegionHeld3
import Derived.Deep.QuietTactic
import Derived.BigQuiet
import Derived.IntWalk
import Derived.Laws.StructEq
import Derived.Laws.Cells
import Derived.Laws.Rows
import Derived.Laws.Tables
import Derived.OwnWalk
import Derived.Deep.DeepCutAuto
import Derived.Deep.Cut
namespace Go.Proofs.YteecialdkfaejaaGreatDoor.Ms
open Go.ChangeShapes Go.WideShapes Go.ChangeAt Go.RowKit
set_option linter.unusedVariables false
set_option maxRecDepth 100000

/-- What stands in a list: a text and a number. -/
abbrev El := ByteArray × Int

/-- The elements of a list of Dest (text, number) stand in w. -/
def DRow (w : World) (a : Option Addr) (l : List El) : Prop :=
  ∀ i (h : i < l.length), ∃ p, a = some p ∧ p.block < w.heap.size ∧ w.cell? (p.add (i * 2)) = some (.string l[i].1) ∧ w.cell? ((p.add (i * 2)).add 1) = some (.int .i64 l[i].2)
/-- The elements of a list of Sub (number, text) stand in w. -/
def SRow (w : World) (a : Option Addr) (l : List El) : Prop :=
  ∀ i (h : i < l.length), ∃ p, a = some p ∧ p.block < w.heap.size ∧ w.cell? (p.add (i * 2)) = some (.int .i64 l[i].2) ∧ w.cell? ((p.add (i * 2)).add 1) = some (.string l[i].1)

theorem add_block (p : Addr) (n : Nat) : (p.add n).block = p.block := by unfold Addr.add; split <;> rfl

theorem DRow.below {w w' : World} {a : Option Addr} {l : List El} (h : DRow w a l) (hb : Below w.heap.size w w') : DRow w' a l := by
  intro i hi
  obtain ⟨p, h1, h2, h3, h4⟩ := h i hi
  refine ⟨p, h1, Nat.lt_of_lt_of_le h2 hb.size, ?_, ?_⟩
  · rw [hb.cell (by rw [add_block]; exact h2)]; exact h3
  · rw [hb.cell (by rw [add_block, add_block]; exact h2)]; exact h4
theorem SRow.below {w w' : World} {a : Option Addr} {l : List El} (h : SRow w a l) (hb : Below w.heap.size w w') : SRow w' a l := by
  intro i hi
  obtain ⟨p, h1, h2, h3, h4⟩ := h i hi
  refine ⟨p, h1, Nat.lt_of_lt_of_le h2 hb.size, ?_, ?_⟩
  · rw [hb.cell (by rw [add_block]; exact h2)]; exact h3
  · rw [hb.cell (by rw [add_block, add_block]; exact h2)]; exact h4
theorem DRow.nil (w : World) (a : Option Addr) : DRow w a [] := fun i hi => absurd hi (by simp)
theorem SRow.nil (w : World) (a : Option Addr) : SRow w a [] := fun i hi => absurd hi (by simp)

theorem take_two {α : Type} (x y : List α) (k : Nat) (hx : k < x.length) (hy : k < y.length) (h : x.take k = y.take k) (he : x[k] = y[k]) : x.take (k + 1) = y.take (k + 1) := by
  rw [List.take_succ_eq_append_getElem hx, List.take_succ_eq_append_getElem hy, h, he]

/-- A message. -/
structure M where
  kind : Int
  cmd : Int
  ver : Int
  auth : ByteArray
  family : Int
  ae : Int
  pfx : ByteArray
  plen : Int
  tag : Int
  next : ByteArray
  metric : Int
  id : ByteArray
  seq : Int
  seq2 : Int
  interval : Int
  flags : Int
  hops : Int
  nonce : Int
  cost : Int
  addr : ByteArray
  orig : ByteArray
  la : Option Addr
  ll : List El
  lc : Nat
  typ : Int
  data : ByteArray
  sa : Option Addr
  sl : List El
  sc : Nat

namespace M
def list (m : M) : Value := .slice m.la m.ll.length m.lc
def subs (m : M) : Value := .slice m.sa m.sl.length m.sc
def cells (m : M) : Array Value := #[.int .i64 m.kind, .int .i64 m.cmd, .int .i64 m.ver, .string m.auth, .int .i64 m.family, .int .i64 m.ae, .string m.pfx, .int .i64 m.plen, .int .i64 m.tag, .string m.next, .int .i64 m.metric, .string m.id, .int .i64 m.seq, .int .i64 m.seq2, .int .i64 m.interval, .int .i64 m.flags, .int .i64 m.hops, .int .i64 m.nonce, .int .i64 m.cost, .string m.addr, .string m.orig, m.list, .int .i64 m.typ, .string m.data, m.subs]
def flat (m : M) : Array Value := #[.int .i64 m.kind, .int .i64 m.cmd, .int .i64 m.ver, .string m.auth, .int .i64 m.family, .int .i64 m.ae, .string m.pfx, .int .i64 m.plen, .int .i64 m.tag, .string m.next, .int .i64 m.metric, .string m.id, .int .i64 m.seq, .int .i64 m.seq2, .int .i64 m.interval, .int .i64 m.flags, .int .i64 m.hops, .int .i64 m.nonce, .int .i64 m.cost, .string m.addr, .string m.orig, .int .i64 m.typ, .string m.data]
/-- The message's lists stand in w, and aren't long. -/
structure In (m : M) (w : World) : Prop where
  d : DRow w m.la m.ll
  s : SRow w m.sa m.sl
  dl : m.ll.length ≤ 1048576
  sl : m.sl.length ≤ 1048576
theorem In.below {m : M} {w w' : World} (h : m.In w) (hb : Below w.heap.size w w') : m.In w' := ⟨h.d.below hb, h.s.below hb, h.dl, h.sl⟩
/-- Are they the same, but for their lists? -/
def flatE (a b : M) : Bool := a.kind == b.kind && (a.cmd == b.cmd && (a.ver == b.ver && (a.auth.toList == b.auth.toList && (a.family == b.family && (a.ae == b.ae && (a.pfx.toList == b.pfx.toList && (a.plen == b.plen && (a.tag == b.tag && (a.next.toList == b.next.toList && (a.metric == b.metric && (a.id.toList == b.id.toList && (a.seq == b.seq && (a.seq2 == b.seq2 && (a.interval == b.interval && (a.flags == b.flags && (a.hops == b.hops && (a.nonce == b.nonce && (a.cost == b.cost && (a.addr.toList == b.addr.toList && (a.orig.toList == b.orig.toList && (a.typ == b.typ && a.data.toList == b.data.toList)))))))))))))))))))))
/-- Are they the same? -/
def same (a b : M) : Bool := flatE a b && (decide (a.ll = b.ll) && decide (a.sl = b.sl))
/-- A message without anything. -/
def zero : M := ⟨0, 0, 0, ByteArray.empty, 0, 0, ByteArray.empty, 0, 0, ByteArray.empty, 0, ByteArray.empty, 0, 0, 0, 0, 0, 0, 0, ByteArray.empty, ByteArray.empty, none, [], 0, 0, ByteArray.empty, none, [], 0⟩
end M

theorem eqF_int {P : Program} {W : World} {d : Nat} {f : Field} {fs : List Field} {xs ys : Array Value} {k k' : IntKind} {a b : Int} {r : Bool} (hn : f.name ≠ "_") (ht : P.underlying f.type = some (.int k'))
    (hx : (part f.type xs f.offset).run P W = .ok (.int k a) W) (hy : (part f.type ys f.offset).run P W = .ok (.int k b) W) (h : (Op.eqFields (d + 1) xs ys fs).run P W = .ok r W) :
    (Op.eqFields (d + 1) xs ys (f :: fs)).run P W = .ok (a == b && r) W := by
  simp only [Op.eqFields, ne_eq, hn, not_false_eq_true, if_true, Sem.run_bind, hx, hy, Result.andThen_ok, run_equalIn_int W d f.type k k' a b ht, Sem.run_ite, h, Sem.run_pure]
  cases a == b <;> simp
theorem eqF_str {P : Program} {W : World} {d : Nat} {f : Field} {fs : List Field} {xs ys : Array Value} {a b : ByteArray} {r : Bool} (hn : f.name ≠ "_") (ht : P.underlying f.type = some .string)
    (hx : (part f.type xs f.offset).run P W = .ok (.string a) W) (hy : (part f.type ys f.offset).run P W = .ok (.string b) W) (h : (Op.eqFields (d + 1) xs ys fs).run P W = .ok r W) :
    (Op.eqFields (d + 1) xs ys (f :: fs)).run P W = .ok (a.toList == b.toList && r) W := by
  simp only [Op.eqFields, ne_eq, hn, not_false_eq_true, if_true, Sem.run_bind, hx, hy, Result.andThen_ok, run_equalIn_string W d f.type a b ht, Sem.run_ite, h, Sem.run_pure]
  cases a.toList == b.toList <;> simp

theorem eqFlat (a b : M) (W : World) : (Op.equalIn 10000 83 (.agg a.flat) (.agg b.flat)).run Tryz.prog W = .ok (M.flatE a b) W := by
  have hf : Tryz.prog.underlying 83 = some (.struct (Tryz.prog.fieldsOf 83)) := by kernel_rfl
  have hp : Tryz.prog.stoodInHeld 83 = false := by kernel_rfl
  have he : M.flatE a b = (a.kind == b.kind && (a.cmd == b.cmd && (a.ver == b.ver && (a.auth.toList == b.auth.toList && (a.family == b.family && (a.ae == b.ae && (a.pfx.toList == b.pfx.toList && (a.plen == b.plen && (a.tag == b.tag && (a.next.toList == b.next.toList && (a.metric == b.metric && (a.id.toList == b.id.toList && (a.seq == b.seq && (a.seq2 == b.seq2 && (a.interval == b.interval && (a.flags == b.flags && (a.hops == b.hops && (a.nonce == b.nonce && (a.cost == b.cost && (a.addr.toList == b.addr.toList && (a.orig.toList == b.orig.toList && (a.typ == b.typ && (a.data.toList == b.data.toList && true))))))))))))))))))))))) := by
    unfold M.flatE; rw [Bool.and_true (a.data.toList == b.data.toList)]
  rw [run_equalIn_struct W 9999 83 a.flat b.flat hf hp, he]
  simp only [Program.fieldsOf, Tryz.underlying83]
  refine eqF_int (by decide) Tryz.underlying3 rfl rfl ?_
  refine eqF_int (by decide) Tryz.underlying3 rfl rfl ?_
  refine eqF_int (by decide) Tryz.underlying3 rfl rfl ?_
  refine eqF_str (by decide) Tryz.underlying9 rfl rfl ?_
  refine eqF_int (by decide) Tryz.underlying3 rfl rfl ?_
  refine eqF_int (by decide) Tryz.underlying3 rfl rfl ?_
  refine eqF_str (by decide) Tryz.underlying9 rfl rfl ?_
  refine eqF_int (by decide) Tryz.underlying3 rfl rfl ?_
  refine eqF_int (by decide) Tryz.underlying3 rfl rfl ?_
  refine eqF_str (by decide) Tryz.underlying9 rfl rfl ?_
  refine eqF_int (by decide) Tryz.underlying3 rfl rfl ?_
  refine eqF_str (by decide) Tryz.underlying9 rfl rfl ?_
  refine eqF_int (by decide) Tryz.underlying3 rfl rfl ?_
  refine eqF_int (by decide) Tryz.underlying3 rfl rfl ?_
  refine eqF_int (by decide) Tryz.underlying3 rfl rfl ?_
  refine eqF_int (by decide) Tryz.underlying3 rfl rfl ?_
  refine eqF_int (by decide) Tryz.underlying3 rfl rfl ?_
  refine eqF_int (by decide) Tryz.underlying3 rfl rfl ?_
  refine eqF_int (by decide) Tryz.underlying3 rfl rfl ?_
  refine eqF_str (by decide) Tryz.underlying9 rfl rfl ?_
  refine eqF_str (by decide) Tryz.underlying9 rfl rfl ?_
  refine eqF_int (by decide) Tryz.underlying3 rfl rfl ?_
  refine eqF_str (by decide) Tryz.underlying9 rfl rfl ?_
  rfl

theorem run_eqlFlat (a b : M) (W : World) : (binOp .eql 83 (.agg a.flat) (.agg b.flat)).run Tryz.prog W = .ok (.bool (M.flatE a b)) W := by
  rw [run_eql_struct, eqFlat]; rfl
theorem run_guardFlat (a b : M) (x y : Operand) (W : World) : (eqGuard .eql 83 x y (.agg a.flat) (.agg b.flat)).run Tryz.prog W = .ok () W := run_eqGuard_agg W .eql _ x y a.flat b.flat (by kernel_rfl)

def elE (x y : El) : Bool := decide (x = y)
theorem bytes_beq (a b : ByteArray) : (a.toList == b.toList) = decide (a = b) := by
  rw [← beq_toListBytes]
  by_cases h : a = b
  · subst h; rw [beq_toListBytes]; simp
  · have : (a == b) = false := by
      rw [beq_toListBytes]
      simp only [ByteArray.toList_eq, beq_eq_false_iff_ne, ne_eq]
      intro h2
      exact h (ByteArray.ext (Array.ext' h2))
    rw [this]; simp [h]
theorem elE_eq (x y : El) : elE x y = (x.1.toList == y.1.toList && (x.2 == y.2 && true)) := by
  obtain ⟨a, n⟩ := x
  obtain ⟨b, m⟩ := y
  unfold elE
  rw [bytes_beq, Bool.and_true]
  by_cases h1 : a = b <;> by_cases h2 : n = m <;> simp [h1, h2]
theorem elE_eq' (x y : El) : elE x y = (x.2 == y.2 && (x.1.toList == y.1.toList && true)) := by
  rw [elE_eq, Bool.and_true, Bool.and_true, Bool.and_comm]

theorem run_neqDest (x y : El) (W : World) : (binOp .neq 43 (.agg #[.string x.1, .int .i64 x.2]) (.agg #[.string y.1, .int .i64 y.2])).run Tryz.prog W = .ok (.bool (!elE x y)) W := by
  have hf : Tryz.prog.underlying 43 = some (.struct (Tryz.prog.fieldsOf 43)) := by kernel_rfl
  have hp : Tryz.prog.stoodInHeld 43 = false := by kernel_rfl
  have hq : (Op.equalIn 10000 43 (.agg #[.string x.1, .int .i64 x.2]) (.agg #[.string y.1, .int .i64 y.2])).run Tryz.prog W = .ok (elE x y) W := by
    rw [run_equalIn_struct W 9999 43 _ _ hf hp, elE_eq]
    simp only [Program.fieldsOf, Tryz.underlying43]
    refine eqF_str (by decide) Tryz.underlying9 rfl rfl ?_
    refine eqF_int (by decide) Tryz.underlying3 rfl rfl ?_
    rfl
  rw [run_neq_struct, hq]; rfl
theorem run_neqSub (x y : El) (W : World) : (binOp .neq 45 (.agg #[.int .i64 x.2, .string x.1]) (.agg #[.int .i64 y.2, .string y.1])).run Tryz.prog W = .ok (.bool (!elE x y)) W := by
  have hf : Tryz.prog.underlying 45 = some (.struct (Tryz.prog.fieldsOf 45)) := by kernel_rfl
  have hp : Tryz.prog.stoodInHeld 45 = false := by kernel_rfl
  have hq : (Op.equalIn 10000 45 (.agg #[.int .i64 x.2, .string x.1]) (.agg #[.int .i64 y.2, .string y.1])).run Tryz.prog W = .ok (elE x y) W := by
    rw [run_equalIn_struct W 9999 45 _ _ hf hp, elE_eq']
    simp only [Program.fieldsOf, Tryz.underlying45]
    refine eqF_int (by decide) Tryz.underlying3 rfl rfl ?_
    refine eqF_str (by decide) Tryz.underlying9 rfl rfl ?_
    rfl
  rw [run_neq_struct, hq]; rfl
theorem run_guardDest (x y : El) (o p : Operand) (W : World) : (eqGuard .neq 43 o p (.agg #[.string x.1, .int .i64 x.2]) (.agg #[.string y.1, .int .i64 y.2])).run Tryz.prog W = .ok () W := run_eqGuard_agg W .neq _ o p _ _ (by kernel_rfl)
theorem run_guardSub (x y : El) (o p : Operand) (W : World) : (eqGuard .neq 45 o p (.agg #[.int .i64 x.2, .string x.1]) (.agg #[.int .i64 y.2, .string y.1])).run Tryz.prog W = .ok () W := run_eqGuard_agg W .neq _ o p _ _ (by kernel_rfl)

theorem indexD (p : Addr) (n c i : Nat) (h : i < n) (W : World) : (Instr.indexAt 28 (.slice (some p) n c) (.int .i64 (i : Int))).run Tryz.prog W = .ok (.pointer (some (p.add (i * 2)))) W := by
  have he : Tryz.prog.elem 28 = 43 := by simp [Program.elem, Tryz.underlying28]
  have hz : (sizeOf 43).run Tryz.prog W = .ok 2 W := by go_simp
  rw [run_indexAt_slice W 28 p n c .i64 (i : Int) (by rw [he]; exact Tryz.underlying28), if_pos (by omega), he, hz]
  rfl
theorem indexS (p : Addr) (n c i : Nat) (h : i < n) (W : World) : (Instr.indexAt 29 (.slice (some p) n c) (.int .i64 (i : Int))).run Tryz.prog W = .ok (.pointer (some (p.add (i * 2)))) W := by
  have he : Tryz.prog.elem 29 = 45 := by simp [Program.elem, Tryz.underlying29]
  have hz : (sizeOf 45).run Tryz.prog W = .ok 2 W := by go_simp
  rw [run_indexAt_slice W 29 p n c .i64 (i : Int) (by rw [he]; exact Tryz.underlying29), if_pos (by omega), he, hz]
  rfl
theorem add_one (p : Addr) : p.add 1 = ⟨p.block, p.off + 1, none⟩ := rfl
theorem bool_eq {a b : Bool} (h : a = b) : Ending.returned (.bool a) = .returned (.bool b) := by rw [h]
theorem bcall {w W w1 : World} (h : Below w.heap.size w W) (hb : Below W.heap.size W w1) : Below w.heap.size w w1 := h.trans (hb.mono h.size)
theorem balloc {w W : World} (h : Below w.heap.size w W) (o : Obj) : Below w.heap.size w (W.alloc o) := h.alloc h.size o
end Go.Proofs.YteecialdkfaejaaGreatDoor.Ms
namespace Go.Proofs.YteecialdkfaejaaGreatDoor.Eq
open Go.ChangeShapes Go.WideShapes Go.ChangeAt Go.RowKit
open Go.Proofs.YteecialdkfaejaaGreatDoor.Ms
set_option linter.unusedVariables false
set_option maxRecDepth 100000

set_option maxHeartbeats 1600000 in
theorem rdests_any (a b : Option Addr) (ca cb : Nat) (x y : List El) (w : World) (hx : DRow w a x) (hy : DRow w b y) (lx : x.length ≤ 1048576) (ly : y.length ≤ 1048576) :
    Calls Tryz.prog 57 #[.slice a x.length ca, .slice b y.length cb] w fun e w' => e = .returned (.bool (decide (x = y))) ∧ Below w.heap.size w w' := by
  by_cases hl : x.length = y.length
  · have HL := Lib.hid hl
    go_enter Tryz.func57, Tryz.ntmps57
    go_wp2
    go_loopw [5] (fun i wr => ∃ k : Nat, k ≤ x.length ∧ i = .int .i64 k ∧ Hid (x.take k = y.take k) ∧ Hid (Below w.heap.size w wr)) (fun i _ => x.length - (intOf i).toNat)
    case atStart => exact ⟨0, Nat.zero_le _, rfl, Lib.hid rfl, Lib.hid (Below.refl _ _)⟩
    case round =>
      obtain ⟨k, hk, rfl, HT, HB⟩ := hrel
      by_cases hlt : k < x.length
      · have hlt2 : k < y.length := by omega
        obtain ⟨p, rfl, _, c0, c1⟩ := (hx.below HB.out) k hlt
        obtain ⟨q, rfl, _, d0, d1⟩ := (hy.below HB.out) k hlt2
        have i0 := indexD p x.length ca k hlt
        have i1 := indexD q y.length cb k hlt2
        have g0 := run_neqDest x[k] y[k]
        have g1 := run_guardDest x[k] y[k]
        have HS := Lib.hid (take_two x y k hlt hlt2 HT.out)
        have HD := Lib.hid (show x = y → x[k] = y[k] from fun h => by simp [h])
        clear HT hx hy
        generalize x[k] = u at *
        generalize y[k] = v at *
        rw [add_one] at c1 d1
        by_cases he : u = v
        · have g2 : elE u v = true := by simp [elE, he]
          have HE := Lib.hid he
          clear he
          go_wp2
          go_quiet (fail)
          go_wp2
          go_roundw
          case rel => exact ⟨k + 1, hlt, by go_num, Lib.hid (HS.out HE.out), Lib.hid (below_drewN HB.out _)⟩
          case measure => simp [intOf]; omega
        · have g2 : elE u v = false := by simp [elE, he]
          have HE := Lib.hid he
          clear he
          go_wp2
          go_quiet (fail)
          go_wp2
          go_ret
          exact ⟨bool_eq (by simp; intro h; exact HE.out (HD.out h)), below_drewN HB.out _⟩
      · obtain rfl : k = x.length := by omega
        have he : x = y := by
          have h := HT.out
          rwa [List.take_length, HL.out, List.take_length] at h
        have HE := Lib.hid he
        clear he
        go_wp2
        go_ret
        exact ⟨bool_eq (by simpa using HE.out), HB.out⟩
  · go_enter Tryz.func57, Tryz.ntmps57
    go_wp2
    go_ret
    exact ⟨bool_eq (by simp; intro h; exact hl (by rw [h])), Below.refl _ _⟩
set_option maxHeartbeats 1600000 in
theorem rsubs_any (a b : Option Addr) (ca cb : Nat) (x y : List El) (w : World) (hx : SRow w a x) (hy : SRow w b y) (lx : x.length ≤ 1048576) (ly : y.length ≤ 1048576) :
    Calls Tryz.prog 58 #[.slice a x.length ca, .slice b y.length cb] w fun e w' => e = .returned (.bool (decide (x = y))) ∧ Below w.heap.size w w' := by
  by_cases hl : x.length = y.length
  · have HL := Lib.hid hl
    go_enter Tryz.func58, Tryz.ntmps58
    go_wp2
    go_loopw [5] (fun i wr => ∃ k : Nat, k ≤ x.length ∧ i = .int .i64 k ∧ Hid (x.take k = y.take k) ∧ Hid (Below w.heap.size w wr)) (fun i _ => x.length - (intOf i).toNat)
    case atStart => exact ⟨0, Nat.zero_le _, rfl, Lib.hid rfl, Lib.hid (Below.refl _ _)⟩
    case round =>
      obtain ⟨k, hk, rfl, HT, HB⟩ := hrel
      by_cases hlt : k < x.length
      · have hlt2 : k < y.length := by omega
        obtain ⟨p, rfl, _, c0, c1⟩ := (hx.below HB.out) k hlt
        obtain ⟨q, rfl, _, d0, d1⟩ := (hy.below HB.out) k hlt2
        have i0 := indexS p x.length ca k hlt
        have i1 := indexS q y.length cb k hlt2
        have g0 := run_neqSub x[k] y[k]
        have g1 := run_guardSub x[k] y[k]
        have HS := Lib.hid (take_two x y k hlt hlt2 HT.out)
        have HD := Lib.hid (show x = y → x[k] = y[k] from fun h => by simp [h])
        clear HT hx hy
        generalize x[k] = u at *
        generalize y[k] = v at *
        rw [add_one] at c1 d1
        by_cases he : u = v
        · have g2 : elE u v = true := by simp [elE, he]
          have HE := Lib.hid he
          clear he
          go_wp2
          go_quiet (fail)
          go_wp2
          go_roundw
          case rel => exact ⟨k + 1, hlt, by go_num, Lib.hid (HS.out HE.out), Lib.hid (below_drewN HB.out _)⟩
          case measure => simp [intOf]; omega
        · have g2 : elE u v = false := by simp [elE, he]
          have HE := Lib.hid he
          clear he
          go_wp2
          go_quiet (fail)
          go_wp2
          go_ret
          exact ⟨bool_eq (by simp; intro h; exact HE.out (HD.out h)), below_drewN HB.out _⟩
      · obtain rfl : k = x.length := by omega
        have he : x = y := by
          have h := HT.out
          rwa [List.take_length, HL.out, List.take_length] at h
        have HE := Lib.hid he
        clear he
        go_wp2
        go_ret
        exact ⟨bool_eq (by simpa using HE.out), HB.out⟩
  · go_enter Tryz.func58, Tryz.ntmps58
    go_wp2
    go_ret
    exact ⟨bool_eq (by simp; intro h; exact hl (by rw [h])), Below.refl _ _⟩
set_option maxHeartbeats 1600000 in
theorem dests_any (a b : Option Addr) (ca cb : Nat) (x y : List El) (w : World) (hx : DRow w a x) (hy : DRow w b y) (lx : x.length ≤ 1048576) (ly : y.length ≤ 1048576) :
    Calls Tryz.prog 61 #[.slice a x.length ca, .slice b y.length cb] w fun e w' => e = .returned (.bool (decide (x = y))) ∧ Below w.heap.size w w' := by
  by_cases hl : x.length = y.length
  · have HL := Lib.hid hl
    go_enter Tryz.func61, Tryz.ntmps61
    go_wp2
    go_loopw [13] (fun i wr => ∃ k : Nat, k ≤ x.length ∧ i = .int .i64 k ∧ Hid (x.take k = y.take k) ∧ Hid (Below w.heap.size w wr)) (fun i _ => x.length - (intOf i).toNat)
    case atStart => exact ⟨0, Nat.zero_le _, rfl, Lib.hid rfl, Lib.hid (Below.refl _ _)⟩
    case round =>
      obtain ⟨k, hk, rfl, HT, HB⟩ := hrel
      by_cases hlt : k < x.length
      · have hlt2 : k < y.length := by omega
        obtain ⟨p, rfl, _, c0, c1⟩ := (hx.below HB.out) k hlt
        obtain ⟨q, rfl, _, d0, d1⟩ := (hy.below HB.out) k hlt2
        have i0 := indexD p x.length ca k hlt
        have i1 := indexD q y.length cb k hlt2
        have g0 := run_neqDest x[k] y[k]
        have g1 := run_guardDest x[k] y[k]
        have HS := Lib.hid (take_two x y k hlt hlt2 HT.out)
        have HD := Lib.hid (show x = y → x[k] = y[k] from fun h => by simp [h])
        clear HT hx hy
        generalize x[k] = u at *
        generalize y[k] = v at *
        rw [add_one] at c1 d1
        by_cases he : u = v
        · have g2 : elE u v = true := by simp [elE, he]
          have HE := Lib.hid he
          clear he
          go_wp2
          go_quiet (fail)
          go_wp2
          go_roundw
          case rel => exact ⟨k + 1, hlt, by go_num, Lib.hid (HS.out HE.out), Lib.hid (below_drewN HB.out _)⟩
          case measure => simp [intOf]; omega
        · have g2 : elE u v = false := by simp [elE, he]
          have HE := Lib.hid he
          clear he
          go_wp2
          go_quiet (fail)
          go_wp2
          go_ret
          exact ⟨bool_eq (by simp; intro h; exact HE.out (HD.out h)), below_drewN HB.out _⟩
      · obtain rfl : k = x.length := by omega
        have he : x = y := by
          have h := HT.out
          rwa [List.take_length, HL.out, List.take_length] at h
        have HE := Lib.hid he
        clear he
        go_wp2
        go_ret
        exact ⟨bool_eq (by simpa using HE.out), HB.out⟩
  · go_enter Tryz.func61, Tryz.ntmps61
    go_wp2
    go_ret
    exact ⟨bool_eq (by simp; intro h; exact hl (by rw [h])), Below.refl _ _⟩
set_option maxHeartbeats 1600000 in
theorem subs_any (a b : Option Addr) (ca cb : Nat) (x y : List El) (w : World) (hx : SRow w a x) (hy : SRow w b y) (lx : x.length ≤ 1048576) (ly : y.length ≤ 1048576) :
    Calls Tryz.prog 62 #[.slice a x.length ca, .slice b y.length cb] w fun e w' => e = .returned (.bool (decide (x = y))) ∧ Below w.heap.size w w' := by
  by_cases hl : x.length = y.length
  · have HL := Lib.hid hl
    go_enter Tryz.func62, Tryz.ntmps62
    go_wp2
    go_loopw [13] (fun i wr => ∃ k : Nat, k ≤ x.length ∧ i = .int .i64 k ∧ Hid (x.take k = y.take k) ∧ Hid (Below w.heap.size w wr)) (fun i _ => x.length - (intOf i).toNat)
    case atStart => exact ⟨0, Nat.zero_le _, rfl, Lib.hid rfl, Lib.hid (Below.refl _ _)⟩
    case round =>
      obtain ⟨k, hk, rfl, HT, HB⟩ := hrel
      by_cases hlt : k < x.length
      · have hlt2 : k < y.length := by omega
        obtain ⟨p, rfl, _, c0, c1⟩ := (hx.below HB.out) k hlt
        obtain ⟨q, rfl, _, d0, d1⟩ := (hy.below HB.out) k hlt2
        have i0 := indexS p x.length ca k hlt
        have i1 := indexS q y.length cb k hlt2
        have g0 := run_neqSub x[k] y[k]
        have g1 := run_guardSub x[k] y[k]
        have HS := Lib.hid (take_two x y k hlt hlt2 HT.out)
        have HD := Lib.hid (show x = y → x[k] = y[k] from fun h => by simp [h])
        clear HT hx hy
        generalize x[k] = u at *
        generalize y[k] = v at *
        rw [add_one] at c1 d1
        by_cases he : u = v
        · have g2 : elE u v = true := by simp [elE, he]
          have HE := Lib.hid he
          clear he
          go_wp2
          go_quiet (fail)
          go_wp2
          go_roundw
          case rel => exact ⟨k + 1, hlt, by go_num, Lib.hid (HS.out HE.out), Lib.hid (below_drewN HB.out _)⟩
          case measure => simp [intOf]; omega
        · have g2 : elE u v = false := by simp [elE, he]
          have HE := Lib.hid he
          clear he
          go_wp2
          go_quiet (fail)
          go_wp2
          go_ret
          exact ⟨bool_eq (by simp; intro h; exact HE.out (HD.out h)), below_drewN HB.out _⟩
      · obtain rfl : k = x.length := by omega
        have he : x = y := by
          have h := HT.out
          rwa [List.take_length, HL.out, List.take_length] at h
        have HE := Lib.hid he
        clear he
        go_wp2
        go_ret
        exact ⟨bool_eq (by simpa using HE.out), HB.out⟩
  · go_enter Tryz.func62, Tryz.ntmps62
    go_wp2
    go_ret
    exact ⟨bool_eq (by simp; intro h; exact hl (by rw [h])), Below.refl _ _⟩
end Go.Proofs.YteecialdkfaejaaGreatDoor.Eq
namespace Go.Proofs.YteecialdkfaejaaGreatDoor.Box
open Go.ChangeShapes Go.WideShapes Go.ChangeAt Go.RowKit
open Go.Proofs.YteecialdkfaejaaGreatDoor.Ms
set_option linter.unusedVariables false
set_option maxRecDepth 100000

theorem below_setRow {B : Nat} {a w : World} (h : Below B a w) {g : Nat} (hg : B ≤ g) (cs : Array Value) : Below B a (w.setRow g cs) :=
  h.trans ⟨rfl, rfl, rfl, by simp, fun k hk => setRow_other w g k cs (by omega)⟩

theorem wpList_built {P : Program} {ops : Array Oper} {rest : List Oper} {o : Oper} {a : Act} {w : World} {Q : Exit → Act → World → Prop} (hg : o.guard = none) (t : TypeId) (parts : Array (Nat × Operand)) (ho : o.op = .build t parts)
    (cells : Array Value) (hc : P.built t (parts.map fun (i, x) => (i, a.eval x)).toList = some cells)
    (h : wpList P ops Q rest (a.put o.dst (.agg cells)) w) : wpList P ops Q (o :: rest) a w :=
  wpList_build hg t parts ho (by rw [hc]; rfl) (by rw [hc]; exact h)

/-- Message m stands in block b. -/
def Bx (w : World) (b : Nat) (m : M) : Prop := w.heap[b]? = some (.cells m.cells 31 (0, 0))
theorem Bx.lt {w : World} {b : Nat} {m : M} (h : Bx w b m) : b < w.heap.size := (Array.getElem?_eq_some_iff.1 h).1
theorem Bx.below {w w' : World} {b : Nat} {m : M} (h : Bx w b m) (hb : Below w.heap.size w w') : Bx w' b m := (hb.block b h.lt).trans h
theorem Bx.new (w : World) (m : M) : Bx (w.alloc (.cells m.cells 31)) w.heap.size m := heap_alloc_new w _
theorem Bx.old {w : World} {b : Nat} {m : M} (h : Bx w b m) (o : Obj) : Bx (w.alloc o) b m := (heap_alloc_old w o h.lt).trans h
theorem Bx.row {w : World} {g b : Nat} {m : M} (h : Bx w b m) (hn : b ≠ g) (cs : Array Value) : Bx (w.setRow g cs) b m := (setRow_other w g b cs hn).trans h
theorem Bx.put {w : World} {b : Nat} {m m' : M} (h : Bx w b m) : Bx (w.setRow b m'.cells) b m' := setRow_heap w b m.cells m'.cells _ _ h
theorem Bx.set {w : World} {b i : Nat} {m m' : M} {v : Value} (h : Bx w b m) (hm : m.cells.setIfInBounds i v = m'.cells) : Bx (w.setCell ⟨b, i, none⟩ v) b m' := by
  have := heap_setCell_same w b i m.cells 31 v h
  rw [hm] at this
  exact this
theorem Bx.off {w : World} {b : Nat} {m : M} (h : Bx w b m) {p : Addr} (hn : b ≠ p.block) (v : Value) : Bx (w.setCell p v) b m := (heap_setCell_other w p b v hn).trans h
theorem Bx.cell {w : World} {b : Nat} {m : M} (h : Bx w b m) (j : Nat) (v : Value) (hv : m.cells[j]? = some v) : w.cell? ⟨b, j, none⟩ = some v := by
  rw [cell_of_row w b j m.cells _ _ h, hv]
theorem Bx.frozen {w : World} {b : Nat} {m : M} (h : Bx w b m) (j : Nat) : w.frozen? ⟨b, j, none⟩ = false := frozen_of_row w b j m.cells _ h

structure Cs (w : World) (b : Nat) (m : M) : Prop where
  c0 : w.cell? ⟨b, 0, none⟩ = some (.int .i64 m.kind)
  c1 : w.cell? ⟨b, 1, none⟩ = some (.int .i64 m.cmd)
  c2 : w.cell? ⟨b, 2, none⟩ = some (.int .i64 m.ver)
  c3 : w.cell? ⟨b, 3, none⟩ = some (.string m.auth)
  c4 : w.cell? ⟨b, 4, none⟩ = some (.int .i64 m.family)
  c5 : w.cell? ⟨b, 5, none⟩ = some (.int .i64 m.ae)
  c6 : w.cell? ⟨b, 6, none⟩ = some (.string m.pfx)
  c7 : w.cell? ⟨b, 7, none⟩ = some (.int .i64 m.plen)
  c8 : w.cell? ⟨b, 8, none⟩ = some (.int .i64 m.tag)
  c9 : w.cell? ⟨b, 9, none⟩ = some (.string m.next)
  c10 : w.cell? ⟨b, 10, none⟩ = some (.int .i64 m.metric)
  c11 : w.cell? ⟨b, 11, none⟩ = some (.string m.id)
  c12 : w.cell? ⟨b, 12, none⟩ = some (.int .i64 m.seq)
  c13 : w.cell? ⟨b, 13, none⟩ = some (.int .i64 m.seq2)
  c14 : w.cell? ⟨b, 14, none⟩ = some (.int .i64 m.interval)
  c15 : w.cell? ⟨b, 15, none⟩ = some (.int .i64 m.flags)
  c16 : w.cell? ⟨b, 16, none⟩ = some (.int .i64 m.hops)
  c17 : w.cell? ⟨b, 17, none⟩ = some (.int .i64 m.nonce)
  c18 : w.cell? ⟨b, 18, none⟩ = some (.int .i64 m.cost)
  c19 : w.cell? ⟨b, 19, none⟩ = some (.string m.addr)
  c20 : w.cell? ⟨b, 20, none⟩ = some (.string m.orig)
  c21 : w.cell? ⟨b, 21, none⟩ = some (.slice m.la m.ll.length m.lc)
  c22 : w.cell? ⟨b, 22, none⟩ = some (.int .i64 m.typ)
  c23 : w.cell? ⟨b, 23, none⟩ = some (.string m.data)
  c24 : w.cell? ⟨b, 24, none⟩ = some (.slice m.sa m.sl.length m.sc)
theorem Bx.cs {w : World} {b : Nat} {m : M} (h : Bx w b m) : Cs w b m := by
  constructor <;> exact h.cell _ _ rfl

theorem oneM (m : M) : (m.cells.all fun x => x.oneCell') = true := by simp [M.cells, M.list, M.subs, Value.oneCell']
theorem oneF (m : M) : (m.flat.all fun x => x.oneCell') = true := by simp [M.flat, Value.oneCell']
theorem infoM : (Tryz.prog.info? 31).map (·.size) = some 25 := by kernel_rfl
theorem infoF : (Tryz.prog.info? 83).map (·.size) = some 23 := by kernel_rfl

theorem wpList_loadM {ops : Array Oper} {rest : List Oper} {o : Oper} {a : Act} {w : World} {Q : Exit → Act → World → Prop} (hgd : o.guard = none) (x : Operand) (ho : o.op = .load 31 x)
    {b : Nat} (hx : a.eval x = .pointer (some ⟨b, 0, none⟩)) {m : M} (hb : Bx w b m)
    (h : wpList Tryz.prog ops Q rest (a.put o.dst (.agg m.cells)) w) : wpList Tryz.prog ops Q (o :: rest) a w :=
  wpList_load_row hgd 31 x ho b hx 31 m.cells (0, 0) _ hb Tryz.underlying31 rfl infoM h
theorem wpList_storeM {ops : Array Oper} {rest : List Oper} {o : Oper} {a : Act} {w : World} {Q : Exit → Act → World → Prop} (hgd : o.guard = none) (x y : Operand) (ho : o.op = .store 31 x y)
    {b : Nat} (hx : a.eval x = .pointer (some ⟨b, 0, none⟩)) {m m' : M} (hy : a.eval y = .agg m'.cells) (hb : Bx w b m)
    (h : wpList Tryz.prog ops Q rest (a.put o.dst undef) (w.setRow b m'.cells)) : wpList Tryz.prog ops Q (o :: rest) a w :=
  wpList_store_row hgd 31 x y ho b m'.cells hx hy 31 m.cells hb infoM rfl (oneM m') h
end Go.Proofs.YteecialdkfaejaaGreatDoor.Box
namespace Go.Proofs.YteecialdkfaejaaGreatDoor.Hs
open Go.ChangeShapes Go.WideShapes Go.ChangeAt Go.RowKit
open Go.Proofs.YteecialdkfaejaaGreatDoor.Ms
open Go.Proofs.YteecialdkfaejaaGreatDoor.Box
set_option linter.unusedVariables false
set_option maxRecDepth 100000

section
variable {P : Program} {ops : Array Oper} {Q : Exit → Act → World → Prop} {md : Region.Mode} {S : World → Prop}
theorem H.skip {i : Nat} {d : Tmp} {fuel : Nat} {listed : Array Bool} {a : Act} {w : World}
    (hd : (ops[i]?).map (fun o => (o.dst, Region.wanted o (yielded ops a.tmps))) = some (some d, false))
    (hs : Region.noSelect ops = true) (hf : Region.free md ops listed i = true) (hr : (Region.ready md ops listed).contains i = true)
    (hQ : ∀ c a w, Q (.panic c) (a.put (some d) undef) w → Q (.panic c) a w) (hS : S w)
    (h : wpAnyH P md ops Q S fuel (listed.setIfInBounds i true) (a.put (some d) undef) w) : wpAnyH P md ops Q S (fuel + 1) listed a w := by
  cases ho : ops[i]? with
  | none => rw [ho] at hd; cases hd
  | some o =>
    rw [ho] at hd
    simp only [Option.map_some, Option.some.injEq, Prod.mk.injEq] at hd
    obtain ⟨h1, h2⟩ := hd
    refine wpAnyH_take (v := undef) ho hs hf hr ?_ (.inr ⟨h2, rfl⟩) hS ?_
    · rw [h1]; exact hQ
    · rw [h1]; exact h
theorem H.take {i : Nat} {o : Oper} {d : Tmp} {v : Value} {fuel : Nat} {listed : Array Bool} {a : Act} {w : World}
    (ho : ops[i]? = some o) (hw : Region.wanted o (yielded ops a.tmps) = true) (hd : o.dst = some d)
    (hs : Region.noSelect ops = true) (hf : Region.free md ops listed i = true) (hr : (Region.ready md ops listed).contains i = true)
    (hQ : ∀ c a w, Q (.panic c) (a.put (some d) v) w → Q (.panic c) a w)
    (hy : ∀ w, S w → (execOp a.eval o).run P w = .ok (.value v) w) (hS : S w)
    (h : wpAnyH P md ops Q S fuel (listed.setIfInBounds i true) (a.put (some d) v) w) : wpAnyH P md ops Q S (fuel + 1) listed a w := by
  refine wpAnyH_take (v := v) ho hs hf hr ?_ (.inl ⟨hw, hy⟩) hS ?_
  · rw [hd]; exact hQ
  · rw [hd]; exact h
/-- H.take, its side conditions shown by themselves. -/
theorem H.tk {i : Nat} {o : Oper} {d : Tmp} {v : Value} {fuel : Nat} {listed : Array Bool} {a : Act} {w : World}
    (hy : ∀ w, S w → (execOp a.eval o).run P w = .ok (.value v) w) (hS : S w)
    (h : wpAnyH P md ops Q S fuel (listed.setIfInBounds i true) (a.put (some d) v) w)
    (ho : ops[i]? = some o := by simp only [List.getElem?_toArray, List.getElem?_cons_succ, List.getElem?_cons_zero]; rfl)
    (hw : Region.wanted o (yielded ops a.tmps) = true := by kernel_rfl) (hd : o.dst = some d := by rfl)
    (hs : Region.noSelect ops = true := by kernel_rfl) (hf : Region.free md ops listed i = true := by kernel_rfl) (hr : (Region.ready md ops listed).contains i = true := by kernel_rfl)
    (hQ : ∀ c a w, Q (.panic c) (a.put (some d) v) w → Q (.panic c) a w := by exact fun _ _ _ h => h) : wpAnyH P md ops Q S (fuel + 1) listed a w :=
  H.take ho hw hd hs hf hr hQ hy hS h
theorem H.sk {i : Nat} {d : Tmp} {fuel : Nat} {listed : Array Bool} {a : Act} {w : World} (hS : S w)
    (h : wpAnyH P md ops Q S fuel (listed.setIfInBounds i true) (a.put (some d) undef) w)
    (hd : (ops[i]?).map (fun o => (o.dst, Region.wanted o (yielded ops a.tmps))) = some (some d, false) := by kernel_rfl)
    (hs : Region.noSelect ops = true := by kernel_rfl) (hf : Region.free md ops listed i = true := by kernel_rfl) (hr : (Region.ready md ops listed).contains i = true := by kernel_rfl)
    (hQ : ∀ c a w, Q (.panic c) (a.put (some d) undef) w → Q (.panic c) a w := by exact fun _ _ _ h => h) : wpAnyH P md ops Q S (fuel + 1) listed a w :=
  H.skip hd hs hf hr hQ hS h
end

theorem run_loadM {o : Oper} {ρ : Operand → Value} {x : Operand} {b : Nat} {m : M} {w : World} (ho : o.op = .load 31 x) (hx : ρ x = .pointer (some ⟨b, 0, none⟩)) (hb : Bx w b m) :
    (execOp ρ o).run Tryz.prog w = .ok (.value (.agg m.cells)) w := by
  unfold execOp
  simp only [ho, hx, Instr.loadAt, Instr.sureAddr, Sem.run_bind, Sem.run_pure, Result.andThen_ok, run_loadVar_row w b 31 31 m.cells (0, 0) _ hb Tryz.underlying31 rfl infoM]

theorem run_eqF {o : Oper} {ρ : Operand → Value} {x y : Operand} {a b : M} {w : World} {r : Bool} (ho : o.op = .binOp .eql 83 x y 83) (hx : ρ x = .agg a.flat) (hy : ρ y = .agg b.flat) (hr : M.flatE a b = r) :
    (execOp ρ o).run Tryz.prog w = .ok (.value (.bool r)) w := by
  unfold execOp
  subst hr
  simp only [ho, hx, hy, Sem.run_bind, run_guardFlat, Result.andThen_ok, run_eqlFlat, Sem.run_pure]

/-- what a call leaves, if it leaves the old blocks alone -/
theorem heldP {P : Program} {f : Nat} {args : Array Value} {W : World} {v : Ending} (S : World → Prop) (hm : ∀ W w1, S W → Below W.heap.size W w1 → S w1)
    (h : Calls P f args W fun e w' => e = v ∧ Below W.heap.size W w') (hS : S W) : Calls P f args W fun e w' => e = v ∧ S w' :=
  h.mono fun _ _ ⟨he, hb⟩ => ⟨he, hm _ _ hS hb⟩
end Go.Proofs.YteecialdkfaejaaGreatDoor.Hs
namespace Go.Proofs.YteecialdkfaejaaGreatDoor.Same
open Go.ChangeShapes Go.WideShapes Go.ChangeAt Go.RowKit
open Go.Proofs.YteecialdkfaejaaGreatDoor.Ms
open Go.Proofs.YteecialdkfaejaaGreatDoor.Box
set_option linter.unusedVariables false
set_option maxRecDepth 100000

theorem alloc_size (w : World) (o : Obj) : (w.alloc o).heap.size = w.heap.size + 1 := by show (w.heap.push o).size = _; simp

set_option maxHeartbeats 1600000 in
set_option maxRecDepth 100000 in
theorem flatten_any (m : M) (w : World) :
    Calls Tryz.prog 60 #[.agg m.cells] w fun e w' => e = .returned (.agg m.flat) ∧ Below w.heap.size w w' := by
  have hb := Bx.new w m
  have hbel := balloc (Below.refl _ w) (.cells m.cells 31)
  have hsz := alloc_size w (.cells m.cells 31)
  go_enter Tryz.func60, Tryz.ntmps60
  go_upto_region 1 with fail
  generalize w.alloc (.cells m.cells 31) = W at *
  have hz : W.heap.size = w.heap.size + 1 := hsz
  have h2 := heap_alloc_new W (.cells M.zero.flat 83)
  rw [hz] at h2
  have hb2 := hb.old (.cells M.zero.flat 83)
  have hbel2 := balloc hbel (.cells M.zero.flat 83)
  clear hsz hz hb hbel
  change Code.wp _ _ _ _ (W.alloc (.cells M.zero.flat 83))
  generalize W.alloc (.cells M.zero.flat 83) = V at *
  clear W
  obtain ⟨c0, c1, c2, c3, c4, c5, c6, c7, c8, c9, c10, c11, c12, c13, c14, c15, c16, c17, c18, c19, c20, c21, c22, c23, c24⟩ := hb2.cs
  have H2 := Lib.hid h2
  clear h2 hb2 c21 c24
  go_wp2_with (first | (refine wpList_built rfl 83 _ rfl m.flat (by kernel_rfl) ?_) | (refine wpList_store_row rfl 83 _ _ rfl (w.heap.size + 1) m.flat rfl rfl 83 M.zero.flat H2.out infoF rfl (oneF m) ?_))
  exact bodyPost_ret (v := .agg m.flat) (results_cell_row (p := 2) (ty := 83) rfl _ _ (w.heap.size + 1) 83 m.flat (0, 0) _ rfl (setRow_heap V (w.heap.size + 1) M.zero.flat m.flat 83 _ H2.out) Tryz.underlying83 rfl infoF) rfl ⟨rfl, below_setRow hbel2 (by omega) _⟩
end Go.Proofs.YteecialdkfaejaaGreatDoor.Same
namespace Go.Proofs.YteecialdkfaejaaGreatDoor.SameP
open Go.ChangeShapes Go.WideShapes Go.ChangeAt Go.RowKit
open Go.Proofs.YteecialdkfaejaaGreatDoor.Ms
open Go.Proofs.YteecialdkfaejaaGreatDoor.Box
open Go.Proofs.YteecialdkfaejaaGreatDoor.Eq
open Go.Proofs.YteecialdkfaejaaGreatDoor.Same
open Go.Proofs.YteecialdkfaejaaGreatDoor.Hs
set_option linter.unusedVariables false
set_option maxRecDepth 100000

theorem start (w : World) (m m' : M) : Bx ((w.alloc (.cells m.cells 31)).alloc (.cells m'.cells 31)) w.heap.size m ∧ Bx ((w.alloc (.cells m.cells 31)).alloc (.cells m'.cells 31)) (w.heap.size + 1) m' ∧ Below w.heap.size w ((w.alloc (.cells m.cells 31)).alloc (.cells m'.cells 31)) :=
  ⟨(Bx.new w m).old _, by have := Bx.new (w.alloc (.cells m.cells 31)) m'; rwa [alloc_size] at this, balloc (balloc (Below.refl _ _) _) _⟩

/-- What stays in a region over two messages. -/
def S2 (w : World) (a b : M) (W : World) : Prop := Bx W w.heap.size a ∧ Bx W (w.heap.size + 1) b ∧ a.In W ∧ b.In W ∧ Below w.heap.size w W
theorem S2.keep {w : World} {a b : M} (W w1 : World) (h : S2 w a b W) (hb : Below W.heap.size W w1) : S2 w a b w1 := ⟨h.1.below hb, h.2.1.below hb, h.2.2.1.below hb, h.2.2.2.1.below hb, bcall h.2.2.2.2 hb⟩

set_option maxHeartbeats 1600000 in
set_option maxRecDepth 100000 in
theorem same_any (a b : M) (w : World) (ha : a.In w) (hb : b.In w) :
    Calls Tryz.prog 36 #[.agg a.cells, .agg b.cells] w fun e w' => e = .returned (.bool (M.same a b)) ∧ Below w.heap.size w w' := by
  have PA := Lib.hid (fun W (h : S2 w a b W) => heldP (S2 w a b) S2.keep (flatten_any a W) h)
  have PB := Lib.hid (fun W (h : S2 w a b W) => heldP (S2 w a b) S2.keep (flatten_any b W) h)
  have PD := Lib.hid (fun W (h : S2 w a b W) => heldP (S2 w a b) S2.keep (dests_any a.la b.la a.lc b.lc a.ll b.ll W h.2.2.1.d h.2.2.2.1.d h.2.2.1.dl h.2.2.2.1.dl) h)
  have PS := Lib.hid (fun W (h : S2 w a b W) => heldP (S2 w a b) S2.keep (subs_any a.sa b.sa a.sc b.sc a.sl b.sl W h.2.2.1.s h.2.2.2.1.s h.2.2.1.sl h.2.2.2.1.sl) h)
  have HE := Lib.hid (show M.same a b = (M.flatE a b && (decide (a.ll = b.ll) && decide (a.sl = b.sl))) from rfl)
  obtain ⟨ba, bb, bel⟩ := start w a b
  have h0 : S2 w a b ((w.alloc (.cells a.cells 31)).alloc (.cells b.cells 31)) := ⟨ba, bb, ha.below (balloc (balloc (Below.refl _ _) _) _), hb.below (balloc (balloc (Below.refl _ _) _) _), bel⟩
  clear ba bb bel ha hb
  generalize decide (a.ll = b.ll) = D at *
  generalize decide (a.sl = b.sl) = E at *
  go_enter Tryz.func36, Tryz.ntmps36
  go_upto_region 1 with fail
  generalize (w.alloc (.cells a.cells 31)).alloc (.cells b.cells 31) = V at *
  have hV : S2 w a b V.drew := S2.keep V _ h0 (Below.refl _ _).drew
  clear h0
  refine wp_region_held_drew (S := S2 w a b) (by kernel_rfl) hV (fun hS => ?_)
  clear hV
  rcases (show M.flatE a b = false ∨ (M.flatE a b = true ∧ D = false) ∨ (M.flatE a b = true ∧ D = true) by cases M.flatE a b <;> cases D <;> simp) with hF | ⟨hF, hD⟩ | ⟨hF, hD⟩
  · subst_vars
    have HF := Lib.hid hF
    clear hF
    refine H.tk (i := 0) (v := .agg (M.cells a)) ?h0 hS ?_
    case h0 => exact fun w hw => run_loadM (x := .tmp 2) rfl rfl (hw.1)
    try simp only [Act.put, List.setIfInBounds_toArray, List.set_cons_zero, List.set_cons_succ]
    refine H.tk (i := 2) (v := .agg (M.cells b)) ?h2 hS ?_
    case h2 => exact fun w hw => run_loadM (x := .tmp 3) rfl rfl (hw.2.1)
    try simp only [Act.put, List.setIfInBounds_toArray, List.set_cons_zero, List.set_cons_succ]
    refine wpAnyH_ready (rs := [1]) (by kernel_rfl) (by simp) ?_
    refine AllReadyH.cons rfl (fun K hK => ?_) AllReadyH.nil
    go_simp
    refine (PA.out _ hS).mono ?_
    rintro e w1 ⟨rfl, hS1⟩
    refine hK.out _ _ hS1 (fun _ => ?_)
    clear hK K hS
    have hS := hS1
    clear hS1
    try simp only [Act.put, List.setIfInBounds_toArray, List.set_cons_zero, List.set_cons_succ]
    refine wpAnyH_ready (rs := [3]) (by kernel_rfl) (by simp) ?_
    refine AllReadyH.cons rfl (fun K hK => ?_) AllReadyH.nil
    go_simp
    refine (PB.out _ hS).mono ?_
    rintro e w3 ⟨rfl, hS3⟩
    refine hK.out _ _ hS3 (fun _ => ?_)
    clear hK K hS
    have hS := hS3
    clear hS3
    try simp only [Act.put, List.setIfInBounds_toArray, List.set_cons_zero, List.set_cons_succ]
    refine H.tk (i := 4) (v := .bool false) ?h4 hS ?_
    case h4 => exact fun w _ => run_eqF (x := .tmp 6) (y := .tmp 8) rfl rfl rfl HF.out
    try simp only [Act.put, List.setIfInBounds_toArray, List.set_cons_zero, List.set_cons_succ]
    refine H.tk (i := 5) (v := (.bool false)) (fun w _ => rfl) hS ?_
    try simp only [Act.put, List.setIfInBounds_toArray, List.set_cons_zero, List.set_cons_succ]
    refine H.sk (i := 6) (d := 11) hS ?_
    try simp only [Act.put, List.setIfInBounds_toArray, List.set_cons_zero, List.set_cons_succ]
    refine H.sk (i := 7) (d := 12) hS ?_
    try simp only [Act.put, List.setIfInBounds_toArray, List.set_cons_zero, List.set_cons_succ]
    refine H.sk (i := 8) (d := 13) hS ?_
    try simp only [Act.put, List.setIfInBounds_toArray, List.set_cons_zero, List.set_cons_succ]
    refine H.sk (i := 9) (d := 14) hS ?_
    try simp only [Act.put, List.setIfInBounds_toArray, List.set_cons_zero, List.set_cons_succ]
    refine H.sk (i := 10) (d := 15) hS ?_
    try simp only [Act.put, List.setIfInBounds_toArray, List.set_cons_zero, List.set_cons_succ]
    refine H.tk (i := 11) (v := (Value.bool false)) (fun w _ => rfl) hS ?_
    try simp only [Act.put, List.setIfInBounds_toArray, List.set_cons_zero, List.set_cons_succ]
    refine H.tk (i := 12) (v := (Value.bool false)) (fun w _ => rfl) hS ?_
    try simp only [Act.put, List.setIfInBounds_toArray, List.set_cons_zero, List.set_cons_succ]
    refine H.sk (i := 13) (d := 18) hS ?_
    try simp only [Act.put, List.setIfInBounds_toArray, List.set_cons_zero, List.set_cons_succ]
    refine H.sk (i := 14) (d := 19) hS ?_
    try simp only [Act.put, List.setIfInBounds_toArray, List.set_cons_zero, List.set_cons_succ]
    refine H.sk (i := 15) (d := 20) hS ?_
    try simp only [Act.put, List.setIfInBounds_toArray, List.set_cons_zero, List.set_cons_succ]
    refine H.sk (i := 16) (d := 21) hS ?_
    try simp only [Act.put, List.setIfInBounds_toArray, List.set_cons_zero, List.set_cons_succ]
    refine H.sk (i := 17) (d := 22) hS ?_
    try simp only [Act.put, List.setIfInBounds_toArray, List.set_cons_zero, List.set_cons_succ]
    refine H.tk (i := 18) (v := (Value.bool false)) (fun w _ => rfl) hS ?_
    try simp only [Act.put, List.setIfInBounds_toArray, List.set_cons_zero, List.set_cons_succ]
    refine H.tk (i := 19) (v := (Value.bool false)) (fun w _ => rfl) hS ?_
    try simp only [Act.put, List.setIfInBounds_toArray, List.set_cons_zero, List.set_cons_succ]
    refine wpAnyH_done (by kernel_rfl) ?_ _
    go_wp2
    go_ret
    exact ⟨bool_eq (by rw [HE.out, HF.out]; simp), hS.2.2.2.2⟩
  · subst_vars
    have HF := Lib.hid hF
    clear hF
    refine H.tk (i := 0) (v := .agg (M.cells a)) ?h0 hS ?_
    case h0 => exact fun w hw => run_loadM (x := .tmp 2) rfl rfl (hw.1)
    try simp only [Act.put, List.setIfInBounds_toArray, List.set_cons_zero, List.set_cons_succ]
    refine H.tk (i := 2) (v := .agg (M.cells b)) ?h2 hS ?_
    case h2 => exact fun w hw => run_loadM (x := .tmp 3) rfl rfl (hw.2.1)
    try simp only [Act.put, List.setIfInBounds_toArray, List.set_cons_zero, List.set_cons_succ]
    refine wpAnyH_ready (rs := [1]) (by kernel_rfl) (by simp) ?_
    refine AllReadyH.cons rfl (fun K hK => ?_) AllReadyH.nil
    go_simp
    refine (PA.out _ hS).mono ?_
    rintro e w1 ⟨rfl, hS1⟩
    refine hK.out _ _ hS1 (fun _ => ?_)
    clear hK K hS
    have hS := hS1
    clear hS1
    try simp only [Act.put, List.setIfInBounds_toArray, List.set_cons_zero, List.set_cons_succ]
    refine wpAnyH_ready (rs := [3]) (by kernel_rfl) (by simp) ?_
    refine AllReadyH.cons rfl (fun K hK => ?_) AllReadyH.nil
    go_simp
    refine (PB.out _ hS).mono ?_
    rintro e w3 ⟨rfl, hS3⟩
    refine hK.out _ _ hS3 (fun _ => ?_)
    clear hK K hS
    have hS := hS3
    clear hS3
    try simp only [Act.put, List.setIfInBounds_toArray, List.set_cons_zero, List.set_cons_succ]
    refine H.tk (i := 4) (v := .bool true) ?h4 hS ?_
    case h4 => exact fun w _ => run_eqF (x := .tmp 6) (y := .tmp 8) rfl rfl rfl HF.out
    try simp only [Act.put, List.setIfInBounds_toArray, List.set_cons_zero, List.set_cons_succ]
    refine H.tk (i := 5) (v := (.bool true)) (fun w _ => rfl) hS ?_
    try simp only [Act.put, List.setIfInBounds_toArray, List.set_cons_zero, List.set_cons_succ]
    refine H.tk (i := 6) (v := ?v6) ?h6 hS ?_
    case h6 => (intro w hw; go_simp; first | done | (with_reducible rfl))
    try simp only [Act.put, List.setIfInBounds_toArray, List.set_cons_zero, List.set_cons_succ]
    refine H.tk (i := 7) (v := ?v7) ?h7 hS ?_
    case h7 => (intro w hw; have c := (hw.1).cs.c21; go_simp; first | done | (with_reducible rfl))
    try simp only [Act.put, List.setIfInBounds_toArray, List.set_cons_zero, List.set_cons_succ]
    refine H.tk (i := 8) (v := ?v8) ?h8 hS ?_
    case h8 => (intro w hw; go_simp; first | done | (with_reducible rfl))
    try simp only [Act.put, List.setIfInBounds_toArray, List.set_cons_zero, List.set_cons_succ]
    refine H.tk (i := 9) (v := ?v9) ?h9 hS ?_
    case h9 => (intro w hw; have c := (hw.2.1).cs.c21; go_simp; first | done | (with_reducible rfl))
    try simp only [Act.put, List.setIfInBounds_toArray, List.set_cons_zero, List.set_cons_succ]
    refine wpAnyH_ready (rs := [10]) (by kernel_rfl) (by simp) ?_
    refine AllReadyH.cons rfl (fun K hK => ?_) AllReadyH.nil
    go_simp
    refine (PD.out _ hS).mono ?_
    rintro e w10 ⟨rfl, hS10⟩
    refine hK.out _ _ hS10 (fun _ => ?_)
    clear hK K hS
    have hS := hS10
    clear hS10
    try simp only [Act.put, List.setIfInBounds_toArray, List.set_cons_zero, List.set_cons_succ]
    refine H.tk (i := 11) (v := (.bool false)) (fun w _ => rfl) hS ?_
    try simp only [Act.put, List.setIfInBounds_toArray, List.set_cons_zero, List.set_cons_succ]
    refine H.tk (i := 12) (v := (.bool false)) (fun w _ => rfl) hS ?_
    try simp only [Act.put, List.setIfInBounds_toArray, List.set_cons_zero, List.set_cons_succ]
    refine H.sk (i := 13) (d := 18) hS ?_
    try simp only [Act.put, List.setIfInBounds_toArray, List.set_cons_zero, List.set_cons_succ]
    refine H.sk (i := 14) (d := 19) hS ?_
    try simp only [Act.put, List.setIfInBounds_toArray, List.set_cons_zero, List.set_cons_succ]
    refine H.sk (i := 15) (d := 20) hS ?_
    try simp only [Act.put, List.setIfInBounds_toArray, List.set_cons_zero, List.set_cons_succ]
    refine H.sk (i := 16) (d := 21) hS ?_
    try simp only [Act.put, List.setIfInBounds_toArray, List.set_cons_zero, List.set_cons_succ]
    refine H.sk (i := 17) (d := 22) hS ?_
    try simp only [Act.put, List.setIfInBounds_toArray, List.set_cons_zero, List.set_cons_succ]
    refine H.tk (i := 18) (v := (Value.bool false)) (fun w _ => rfl) hS ?_
    try simp only [Act.put, List.setIfInBounds_toArray, List.set_cons_zero, List.set_cons_succ]
    refine H.tk (i := 19) (v := (Value.bool false)) (fun w _ => rfl) hS ?_
    try simp only [Act.put, List.setIfInBounds_toArray, List.set_cons_zero, List.set_cons_succ]
    refine wpAnyH_done (by kernel_rfl) ?_ _
    go_wp2
    go_ret
    exact ⟨bool_eq (by rw [HE.out, HF.out]; simp), hS.2.2.2.2⟩
  · subst_vars
    have HF := Lib.hid hF
    clear hF
    refine H.tk (i := 0) (v := .agg (M.cells a)) ?h0 hS ?_
    case h0 => exact fun w hw => run_loadM (x := .tmp 2) rfl rfl (hw.1)
    try simp only [Act.put, List.setIfInBounds_toArray, List.set_cons_zero, List.set_cons_succ]
    refine H.tk (i := 2) (v := .agg (M.cells b)) ?h2 hS ?_
    case h2 => exact fun w hw => run_loadM (x := .tmp 3) rfl rfl (hw.2.1)
    try simp only [Act.put, List.setIfInBounds_toArray, List.set_cons_zero, List.set_cons_succ]
    refine wpAnyH_ready (rs := [1]) (by kernel_rfl) (by simp) ?_
    refine AllReadyH.cons rfl (fun K hK => ?_) AllReadyH.nil
    go_simp
    refine (PA.out _ hS).mono ?_
    rintro e w1 ⟨rfl, hS1⟩
    refine hK.out _ _ hS1 (fun _ => ?_)
    clear hK K hS
    have hS := hS1
    clear hS1
    try simp only [Act.put, List.setIfInBounds_toArray, List.set_cons_zero, List.set_cons_succ]
    refine wpAnyH_ready (rs := [3]) (by kernel_rfl) (by simp) ?_
    refine AllReadyH.cons rfl (fun K hK => ?_) AllReadyH.nil
    go_simp
    refine (PB.out _ hS).mono ?_
    rintro e w3 ⟨rfl, hS3⟩
    refine hK.out _ _ hS3 (fun _ => ?_)
    clear hK K hS
    have hS := hS3
    clear hS3
    try simp only [Act.put, List.setIfInBounds_toArray, List.set_cons_zero, List.set_cons_succ]
    refine H.tk (i := 4) (v := .bool true) ?h4 hS ?_
    case h4 => exact fun w _ => run_eqF (x := .tmp 6) (y := .tmp 8) rfl rfl rfl HF.out
    try simp only [Act.put, List.setIfInBounds_toArray, List.set_cons_zero, List.set_cons_succ]
    refine H.tk (i := 5) (v := (.bool true)) (fun w _ => rfl) hS ?_
    try simp only [Act.put, List.setIfInBounds_toArray, List.set_cons_zero, List.set_cons_succ]
    refine H.tk (i := 6) (v := ?v6) ?h6 hS ?_
    case h6 => (intro w hw; go_simp; first | done | (with_reducible rfl))
    try simp only [Act.put, List.setIfInBounds_toArray, List.set_cons_zero, List.set_cons_succ]
    refine H.tk (i := 7) (v := ?v7) ?h7 hS ?_
    case h7 => (intro w hw; have c := (hw.1).cs.c21; go_simp; first | done | (with_reducible rfl))
    try simp only [Act.put, List.setIfInBounds_toArray, List.set_cons_zero, List.set_cons_succ]
    refine H.tk (i := 8) (v := ?v8) ?h8 hS ?_
    case h8 => (intro w hw; go_simp; first | done | (with_reducible rfl))
    try simp only [Act.put, List.setIfInBounds_toArray, List.set_cons_zero, List.set_cons_succ]
    refine H.tk (i := 9) (v := ?v9) ?h9 hS ?_
    case h9 => (intro w hw; have c := (hw.2.1).cs.c21; go_simp; first | done | (with_reducible rfl))
    try simp only [Act.put, List.setIfInBounds_toArray, List.set_cons_zero, List.set_cons_succ]
    refine wpAnyH_ready (rs := [10]) (by kernel_rfl) (by simp) ?_
    refine AllReadyH.cons rfl (fun K hK => ?_) AllReadyH.nil
    go_simp
    refine (PD.out _ hS).mono ?_
    rintro e w10 ⟨rfl, hS10⟩
    refine hK.out _ _ hS10 (fun _ => ?_)
    clear hK K hS
    have hS := hS10
    clear hS10
    try simp only [Act.put, List.setIfInBounds_toArray, List.set_cons_zero, List.set_cons_succ]
    refine H.tk (i := 11) (v := (.bool true)) (fun w _ => rfl) hS ?_
    try simp only [Act.put, List.setIfInBounds_toArray, List.set_cons_zero, List.set_cons_succ]
    refine H.tk (i := 12) (v := (.bool true)) (fun w _ => rfl) hS ?_
    try simp only [Act.put, List.setIfInBounds_toArray, List.set_cons_zero, List.set_cons_succ]
    refine H.tk (i := 13) (v := ?v13) ?h13 hS ?_
    case h13 => (intro w hw; go_simp; first | done | (with_reducible rfl))
    try simp only [Act.put, List.setIfInBounds_toArray, List.set_cons_zero, List.set_cons_succ]
    refine H.tk (i := 14) (v := ?v14) ?h14 hS ?_
    case h14 => (intro w hw; have c := (hw.1).cs.c24; go_simp; first | done | (with_reducible rfl))
    try simp only [Act.put, List.setIfInBounds_toArray, List.set_cons_zero, List.set_cons_succ]
    refine H.tk (i := 15) (v := ?v15) ?h15 hS ?_
    case h15 => (intro w hw; go_simp; first | done | (with_reducible rfl))
    try simp only [Act.put, List.setIfInBounds_toArray, List.set_cons_zero, List.set_cons_succ]
    refine H.tk (i := 16) (v := ?v16) ?h16 hS ?_
    case h16 => (intro w hw; have c := (hw.2.1).cs.c24; go_simp; first | done | (with_reducible rfl))
    try simp only [Act.put, List.setIfInBounds_toArray, List.set_cons_zero, List.set_cons_succ]
    refine wpAnyH_ready (rs := [17]) (by kernel_rfl) (by simp) ?_
    refine AllReadyH.cons rfl (fun K hK => ?_) AllReadyH.nil
    go_simp
    refine (PS.out _ hS).mono ?_
    rintro e w17 ⟨rfl, hS17⟩
    refine hK.out _ _ hS17 (fun _ => ?_)
    clear hK K hS
    have hS := hS17
    clear hS17
    try simp only [Act.put, List.setIfInBounds_toArray, List.set_cons_zero, List.set_cons_succ]
    refine H.tk (i := 18) (v := (.bool E)) (fun w _ => rfl) hS ?_
    try simp only [Act.put, List.setIfInBounds_toArray, List.set_cons_zero, List.set_cons_succ]
    refine H.tk (i := 19) (v := (.bool E)) (fun w _ => rfl) hS ?_
    try simp only [Act.put, List.setIfInBounds_toArray, List.set_cons_zero, List.set_cons_succ]
    refine wpAnyH_done (by kernel_rfl) ?_ _
    go_wp2
    go_ret
    exact ⟨bool_eq (by rw [HE.out, HF.out]; simp), hS.2.2.2.2⟩
end Go.Proofs.YteecialdkfaejaaGreatDoor.SameP
namespace Go.Proofs.YteecialdkfaejaaGreatDoor.Or
open Go.ChangeShapes Go.WideShapes Go.ChangeAt Go.RowKit
open Go.Proofs.YteecialdkfaejaaGreatDoor.Ms
open Go.Proofs.YteecialdkfaejaaGreatDoor.Box
set_option linter.unusedVariables false
set_option maxRecDepth 100000

section
variable {P : Program} {ops : Array Oper} {Q : Exit → Act → World → Prop} {A : Act} {w : World} {rest : List Oper} {o : Oper}

theorem st_yes {d : Nat} {v : Value} (hw : Region.wanted o (yielded ops A.tmps) = true) (hd : o.dst = some d) (hy : (execOp A.eval o).run P w = .ok (.value v) w)
    (h : wpList P ops Q rest (A.put (some d) v) w) : wpList P ops Q (o :: rest) A w :=
  wpList_step fun K hK => by
    rw [if_pos hw]
    unfold Oper.wp
    rw [hy]
    simp only [Oper.upon, hd]
    exact hK _ _ h
theorem st_no {d : Nat} (hw : Region.wanted o (yielded ops A.tmps) = false) (hd : o.dst = some d)
    (h : wpList P ops Q rest (A.put (some d) undef) w) : wpList P ops Q (o :: rest) A w :=
  wpList_step fun K hK => by
    rw [if_neg (by rw [hw]; simp), hd]
    exact hK _ _ h

theorem put_size (d : Nat) (v : Value) : (A.put (some d) v).tmps.size = A.tmps.size := by simp [Act.put]
theorem put_same {d : Nat} {v : Value} (h : d < A.tmps.size) : (A.put (some d) v).eval (.tmp d) = v := by simp [Act.eval, Act.put, h]
theorem put_other {d t : Nat} {v : Value} (h : d ≠ t) : (A.put (some d) v).eval (.tmp t) = A.eval (.tmp t) := by simp [Act.eval, Act.put, Array.getElem?_setIfInBounds_ne h]
theorem yielded_eq {g : Nat} {d : Nat} {b : Bool} (hg : (ops[g]?).bind (·.dst) = some d) (hs : d < A.tmps.size) (hv : A.eval (.tmp d) = .bool b) : yielded ops A.tmps g = some b := by
  unfold yielded
  rw [hg]
  simp only [Act.eval, Array.getD_eq_getD_getElem?, Array.getElem?_eq_getElem hs, Option.getD_some] at hv
  simp [Array.getElem?_eq_getElem hs, hv]
theorem wanted_none (hg : o.guard = none) : Region.wanted o (yielded ops A.tmps) = true := by simp [Region.wanted, hg]
theorem wanted_some {g : Nat} {d : Nat} {b c : Bool} (ho : o.guard = some (g, c)) (hg : (ops[g]?).bind (·.dst) = some d) (hs : d < A.tmps.size) (hv : A.eval (.tmp d) = .bool b) : Region.wanted o (yielded ops A.tmps) = (b == c) := by
  simp [Region.wanted, ho, yielded_eq hg hs hv]
end

theorem ex_call {P : Program} {o : Oper} {ρ : Operand → Value} {f : Nat} {args : Array Operand} {ty : Array TypeId} {vs : Array Value} {w : World} (ho : o.op = .call ⟨.value (.func f), args, ty⟩) (hf : ρ (.func f) = .func (.func f) #[] #[]) (ha : args.map ρ = vs) (hcf : (callFunc f vs).run P w = .ok (.enter f vs) w) :
    (execOp ρ o).run P w = .ok (.enter f vs) w := by
  unfold execOp
  simp only [ho, resolve, hf, ha, go_sem]
  simpa [go_sem] using hcf
theorem st_call {P : Program} {ops : Array Oper} {Q : Exit → Act → World → Prop} {A : Act} {w : World} {rest : List Oper} {o : Oper} {d : Nat} {f : Nat} {args : Array Operand} {ty : Array TypeId} {vs : Array Value} {v : Value} {S : World → Prop}
    (hw : Region.wanted o (yielded ops A.tmps) = true) (hd : o.dst = some d) (ho : o.op = .call ⟨.value (.func f), args, ty⟩) (ha : args.map A.eval = vs) (hcf : (callFunc f vs).run P w = .ok (.enter f vs) w)
    (hc : Calls P f vs w fun e w' => e = .returned v ∧ S w') (h : ∀ w', S w' → wpList P ops Q rest (A.put (some d) v) w') : wpList P ops Q (o :: rest) A w :=
  wpList_step fun K hK => by
    rw [if_pos hw]
    unfold Oper.wp
    rw [ex_call ho rfl ha hcf, Oper.upon_enter]
    refine hc.mono ?_
    rintro e w' ⟨rfl, hS⟩
    rw [hd]
    exact hK _ _ (h w' hS)

theorem run_fieldM (b j : Nat) (hj : j < 25) (w : World) : (Instr.fieldAt 31 (.pointer (some ⟨b, 0, none⟩)) j).run Tryz.prog w = .ok (.pointer (some ⟨b, j, none⟩)) w := by
  rcases (show j = 0 ∨ j = 1 ∨ j = 2 ∨ j = 3 ∨ j = 4 ∨ j = 5 ∨ j = 6 ∨ j = 7 ∨ j = 8 ∨ j = 9 ∨ j = 10 ∨ j = 11 ∨ j = 12 ∨ j = 13 ∨ j = 14 ∨ j = 15 ∨ j = 16 ∨ j = 17 ∨ j = 18 ∨ j = 19 ∨ j = 20 ∨ j = 21 ∨ j = 22 ∨ j = 23 ∨ j = 24 by omega) with rfl | rfl | rfl | rfl | rfl | rfl | rfl | rfl | rfl | rfl | rfl | rfl | rfl | rfl | rfl | rfl | rfl | rfl | rfl | rfl | rfl | rfl | rfl | rfl | rfl <;> go_simp
theorem ex_field {o : Oper} {ρ : Operand → Value} {x : Operand} {b j : Nat} {w : World} (ho : o.op = .fieldAddr 31 x j) (hj : j < 25) (hx : ρ x = .pointer (some ⟨b, 0, none⟩)) :
    (execOp ρ o).run Tryz.prog w = .ok (.value (.pointer (some ⟨b, j, none⟩))) w := by
  unfold execOp
  simp only [ho, hx, Sem.run_bind, run_fieldM b j hj, Result.andThen_ok, Sem.run_pure]
theorem ex_load {o : Oper} {ρ : Operand → Value} {x : Operand} {T : TypeId} {p : Addr} {v : Value} {w : World} (ho : o.op = .load T x) (hT : (isAgg T).run Tryz.prog w = .ok false w) (hx : ρ x = .pointer (some p)) (hc : w.cell? p = some v) :
    (execOp ρ o).run Tryz.prog w = .ok (.value v) w := by
  unfold execOp
  simp only [ho, hx, Instr.loadAt, Instr.sureAddr, loadVar, hT, Sem.run_bind, Result.andThen_ok, Sem.run_pure, Bool.false_eq_true, if_false, run_load, hc]
theorem ex_neq {o : Oper} {ρ : Operand → Value} {x y : Operand} {T T' : TypeId} {u v : Value} {r : Bool} {w : World} (ho : o.op = .binOp .neq T x y T') (hx : ρ x = u) (hy : ρ y = v)
    (h1 : (eqGuard .neq T x y u v).run Tryz.prog w = .ok () w) (h2 : (binOp .neq T u v).run Tryz.prog w = .ok (.bool r) w) : (execOp ρ o).run Tryz.prog w = .ok (.value (.bool r)) w := by
  unfold execOp
  simp only [ho, hx, hy, Sem.run_bind, h1, h2, Result.andThen_ok, Sem.run_pure]
theorem ex_pick {o : Oper} {ρ : Operand → Value} {c x y : Operand} {r : Bool} {w : World} (ho : o.op = .pick c x y) (hc : ρ c = .bool r) :
    (execOp ρ o).run Tryz.prog w = .ok (.value (if r then ρ x else ρ y)) w := by
  unfold execOp
  simp only [ho, hc, asBool, Sem.run_bind, Result.andThen_ok, Sem.run_pure]

theorem agg_int (w : World) : (isAgg 3).run Tryz.prog w = .ok false w := by go_simp
theorem agg_str (w : World) : (isAgg 9).run Tryz.prog w = .ok false w := by go_simp

/-- The frame: its size, the two variables' addresses. -/
structure Fr (A : Act) (N n : Nat) : Prop where
  size : A.tmps.size = N
  defers : A.defers = []
  x : A.eval (.tmp 2) = .pointer (some ⟨n, 0, none⟩)
  y : A.eval (.tmp 3) = .pointer (some ⟨n + 1, 0, none⟩)
theorem Fr.put {A : Act} {N n : Nat} (h : Fr A N n) {d : Nat} {v : Value} (hd : 3 < d) : Fr (A.put (some d) v) N n :=
  ⟨(put_size d v).trans h.size, h.defers, (put_other (by omega)).trans h.x, (put_other (by omega)).trans h.y⟩

section
variable {ops : Array Oper} {Q : Exit → Act → World → Prop} {A : Act} {w : World} {rest : List Oper}

theorem first_group {N p n j : Nat} {r : Bool} {T : TypeId} {u v : Value} {o1 o2 o3 o4 o5 : Oper} (F : Fr A N n) (h4 : 3 < p) (hN : p + 4 < N)
    (e1 : o1.dst = some p ∧ o1.op = .fieldAddr 31 (.tmp 2) j ∧ o1.guard = none) (e2 : o2.dst = some (p + 1) ∧ o2.op = .load T (.tmp p) ∧ o2.guard = none)
    (e3 : o3.dst = some (p + 2) ∧ o3.op = .fieldAddr 31 (.tmp 3) j ∧ o3.guard = none) (e4 : o4.dst = some (p + 3) ∧ o4.op = .load T (.tmp (p + 2)) ∧ o4.guard = none)
    (e5 : o5.dst = some (p + 4) ∧ o5.op = .binOp .neq T (.tmp (p + 1)) (.tmp (p + 3)) T ∧ o5.guard = none)
    (hj : j < 25) (hT : (isAgg T).run Tryz.prog w = .ok false w) (cu : w.cell? ⟨n, j, none⟩ = some u) (cv : w.cell? ⟨n + 1, j, none⟩ = some v)
    (h1 : ∀ x y, (eqGuard .neq T x y u v).run Tryz.prog w = .ok () w) (h2 : (binOp .neq T u v).run Tryz.prog w = .ok (.bool r) w)
    (h : ∀ A', Fr A' N n → A'.eval (.tmp (p + 4)) = .bool r → wpList Tryz.prog ops Q rest A' w) : wpList Tryz.prog ops Q (o1 :: o2 :: o3 :: o4 :: o5 :: rest) A w := by
  have hs := F.size
  refine st_yes (wanted_none e1.2.2) e1.1 (ex_field e1.2.1 hj F.x) ?_
  refine st_yes (wanted_none e2.2.2) e2.1 (ex_load e2.2.1 hT (put_same (by omega)) cu) ?_
  refine st_yes (wanted_none e3.2.2) e3.1 (ex_field e3.2.1 hj ((F.put (d := p) h4).put (d := p + 1) (by omega)).y) ?_
  refine st_yes (wanted_none e4.2.2) e4.1 (ex_load e4.2.1 hT (put_same (by simp only [put_size]; omega)) cv) ?_
  refine st_yes (wanted_none e5.2.2) e5.1 (ex_neq e5.2.1 ?_ (put_same (by simp only [put_size]; omega)) (h1 _ _) h2) ?_
  · exact (put_other (by omega)).trans ((put_other (by omega)).trans (put_same (by simp only [put_size]; omega)))
  · exact h _ (((((F.put (d := p) h4).put (d := p + 1) (by omega)).put (d := p + 2) (by omega)).put (d := p + 3) (by omega)).put (d := p + 4) (by omega)) (put_same (by simp only [put_size]; omega))

set_option maxHeartbeats 1600000 in
theorem or_group {N p n j g : Nat} {r r2 : Bool} {T : TypeId} {u v : Value} {o1 o2 o3 o4 o5 o6 o7 : Oper} (F : Fr A N n) (hp : A.eval (.tmp p) = .bool r) (h4 : 3 < p) (hN : p + 7 < N)
    (e1 : o1.dst = some (p + 1) ∧ o1.op = .move (.tmp p) ∧ o1.guard = none)
    (e2 : o2.dst = some (p + 2) ∧ o2.op = .fieldAddr 31 (.tmp 2) j ∧ o2.guard = some (g, false)) (e3 : o3.dst = some (p + 3) ∧ o3.op = .load T (.tmp (p + 2)) ∧ o3.guard = some (g, false))
    (e4 : o4.dst = some (p + 4) ∧ o4.op = .fieldAddr 31 (.tmp 3) j ∧ o4.guard = some (g, false)) (e5 : o5.dst = some (p + 5) ∧ o5.op = .load T (.tmp (p + 4)) ∧ o5.guard = some (g, false))
    (e6 : o6.dst = some (p + 6) ∧ o6.op = .binOp .neq T (.tmp (p + 3)) (.tmp (p + 5)) T ∧ o6.guard = some (g, false))
    (e7 : o7.dst = some (p + 7) ∧ o7.op = .pick (.tmp (p + 1)) (.const (.bool true)) (.tmp (p + 6)) ∧ o7.guard = none)
    (hg : (ops[g]?).bind (·.dst) = some (p + 1))
    (hj : j < 25) (hT : (isAgg T).run Tryz.prog w = .ok false w) (cu : w.cell? ⟨n, j, none⟩ = some u) (cv : w.cell? ⟨n + 1, j, none⟩ = some v)
    (h1 : ∀ x y, (eqGuard .neq T x y u v).run Tryz.prog w = .ok () w) (h2 : (binOp .neq T u v).run Tryz.prog w = .ok (.bool r2) w)
    (h : ∀ A', Fr A' N n → A'.eval (.tmp (p + 7)) = .bool (r || r2) → wpList Tryz.prog ops Q rest A' w) : wpList Tryz.prog ops Q (o1 :: o2 :: o3 :: o4 :: o5 :: o6 :: o7 :: rest) A w := by
  have hs := F.size
  have F1 := F.put (d := p + 1) (v := .bool r) (by omega)
  refine st_yes (v := .bool r) (wanted_none e1.2.2) e1.1 (by rw [BigFrame.run_move _ e1.2.1, hp]) ?_
  have hv : (A.put (some (p + 1)) (.bool r)).eval (.tmp (p + 1)) = .bool r := put_same (by omega)
  generalize A.put (some (p + 1)) (.bool r) = B at *
  have hb := F1.size
  cases r
  · refine st_yes (by rw [wanted_some e2.2.2 hg (by omega) hv]; rfl) e2.1 (ex_field e2.2.1 hj F1.x) ?_
    have k1 : ∀ x, (B.put (some (p + 2)) x).eval (.tmp (p + 1)) = .bool false := fun x => (put_other (by omega)).trans hv
    refine st_yes (by rw [wanted_some e3.2.2 hg (by simp only [put_size]; omega) (k1 _)]; rfl) e3.1 (ex_load e3.2.1 hT (put_same (by omega)) cu) ?_
    have k2 : ∀ x y, ((B.put (some (p + 2)) x).put (some (p + 3)) y).eval (.tmp (p + 1)) = .bool false := fun x y => (put_other (by omega)).trans (k1 x)
    refine st_yes (by rw [wanted_some e4.2.2 hg (by simp only [put_size]; omega) (k2 _ _)]; rfl) e4.1 (ex_field e4.2.1 hj ((F1.put (d := p + 2) (by omega)).put (d := p + 3) (by omega)).y) ?_
    have k3 : ∀ x y z, (((B.put (some (p + 2)) x).put (some (p + 3)) y).put (some (p + 4)) z).eval (.tmp (p + 1)) = .bool false := fun x y z => (put_other (by omega)).trans (k2 x y)
    refine st_yes (by rw [wanted_some e5.2.2 hg (by simp only [put_size]; omega) (k3 _ _ _)]; rfl) e5.1 (ex_load e5.2.1 hT (put_same (by simp only [put_size]; omega)) cv) ?_
    have k4 : ∀ x y z t, ((((B.put (some (p + 2)) x).put (some (p + 3)) y).put (some (p + 4)) z).put (some (p + 5)) t).eval (.tmp (p + 1)) = .bool false := fun x y z t => (put_other (by omega)).trans (k3 x y z)
    refine st_yes (by rw [wanted_some e6.2.2 hg (by simp only [put_size]; omega) (k4 _ _ _ _)]; rfl) e6.1 (ex_neq e6.2.1 ?_ (put_same (by simp only [put_size]; omega)) (h1 _ _) h2) ?_
    · exact (put_other (by omega)).trans ((put_other (by omega)).trans (put_same (by simp only [put_size]; omega)))
    · refine st_yes (v := .bool r2) (wanted_none e7.2.2) e7.1 ?_ ?_
      · refine (ex_pick e7.2.1 (r := false) ((put_other (by omega)).trans (k4 _ _ _ _))).trans ?_
        rw [if_neg (by decide)]
        exact congrArg (fun v => Result.ok (Next.value v) w) (put_same (by simp only [put_size]; omega))
      · exact h _ ((((((F1.put (d := p + 2) (by omega)).put (d := p + 3) (by omega)).put (d := p + 4) (by omega)).put (d := p + 5) (by omega)).put (d := p + 6) (by omega)).put (d := p + 7) (by omega)) ((put_same (by simp only [put_size]; omega)).trans (by simp))
  · refine st_no (by rw [wanted_some e2.2.2 hg (by omega) hv]; rfl) e2.1 ?_
    have k1 : ∀ x, (B.put (some (p + 2)) x).eval (.tmp (p + 1)) = .bool true := fun x => (put_other (by omega)).trans hv
    refine st_no (by rw [wanted_some e3.2.2 hg (by simp only [put_size]; omega) (k1 _)]; rfl) e3.1 ?_
    have k2 : ∀ x y, ((B.put (some (p + 2)) x).put (some (p + 3)) y).eval (.tmp (p + 1)) = .bool true := fun x y => (put_other (by omega)).trans (k1 x)
    refine st_no (by rw [wanted_some e4.2.2 hg (by simp only [put_size]; omega) (k2 _ _)]; rfl) e4.1 ?_
    have k3 : ∀ x y z, (((B.put (some (p + 2)) x).put (some (p + 3)) y).put (some (p + 4)) z).eval (.tmp (p + 1)) = .bool true := fun x y z => (put_other (by omega)).trans (k2 x y)
    refine st_no (by rw [wanted_some e5.2.2 hg (by simp only [put_size]; omega) (k3 _ _ _)]; rfl) e5.1 ?_
    have k4 : ∀ x y z t, ((((B.put (some (p + 2)) x).put (some (p + 3)) y).put (some (p + 4)) z).put (some (p + 5)) t).eval (.tmp (p + 1)) = .bool true := fun x y z t => (put_other (by omega)).trans (k3 x y z)
    refine st_no (by rw [wanted_some e6.2.2 hg (by simp only [put_size]; omega) (k4 _ _ _ _)]; rfl) e6.1 ?_
    refine st_yes (v := .bool true) (wanted_none e7.2.2) e7.1 ?_ ?_
    · refine (ex_pick e7.2.1 (r := true) ((put_other (by omega)).trans (k4 _ _ _ _))).trans ?_
      rw [if_pos rfl]; rfl
    · exact h _ ((((((F1.put (d := p + 2) (by omega)).put (d := p + 3) (by omega)).put (d := p + 4) (by omega)).put (d := p + 5) (by omega)).put (d := p + 6) (by omega)).put (d := p + 7) (by omega)) ((put_same (by simp only [put_size]; omega)).trans (by simp))
end
end Go.Proofs.YteecialdkfaejaaGreatDoor.Or
namespace Go.Proofs.YteecialdkfaejaaGreatDoor.RSame
open Go.ChangeShapes Go.WideShapes Go.ChangeAt Go.RowKit
open Go.Proofs.YteecialdkfaejaaGreatDoor.Ms
open Go.Proofs.YteecialdkfaejaaGreatDoor.Box
open Go.Proofs.YteecialdkfaejaaGreatDoor.Eq
open Go.Proofs.YteecialdkfaejaaGreatDoor.Same
open Go.Proofs.YteecialdkfaejaaGreatDoor.SameP
open Go.Proofs.YteecialdkfaejaaGreatDoor.Hs
open Go.Proofs.YteecialdkfaejaaGreatDoor.Or
set_option linter.unusedVariables false
set_option maxRecDepth 100000

theorem ni (a b : Int) (w : World) : (∀ x y, (eqGuard .neq 3 x y (.int .i64 a) (.int .i64 b)).run Tryz.prog w = .ok () w) ∧ (binOp .neq 3 (.int .i64 a) (.int .i64 b)).run Tryz.prog w = .ok (.bool (a != b)) w :=
  ⟨fun x y => by rw [eqGuard_at_int]; rfl, by rw [binOp_neq]; rfl⟩
theorem ns (a b : ByteArray) (w : World) : (∀ x y, (eqGuard .neq 9 x y (.string a) (.string b)).run Tryz.prog w = .ok () w) ∧ (binOp .neq 9 (.string a) (.string b)).run Tryz.prog w = .ok (.bool (!(a.toList == b.toList))) w :=
  ⟨fun x y => by rw [eqGuard_at_string]; rfl, by rw [binOp_string_neq]; rfl⟩
theorem agg_sl (w : World) : (isAgg 28).run Tryz.prog w = .ok false w ∧ (isAgg 29).run Tryz.prog w = .ok false w := by constructor <;> go_simp
theorem with_frame {c : Code} {Q : Exit → Act → World → Prop} {A : Act} {w : World} {n : Nat} (h : ∀ B, Fr B 174 n → c.wp Tryz.prog Q B w) (F : Fr A 174 n) : c.wp Tryz.prog Q A w := h A F
theorem ret_slot4 {A : Act} {n : Nat} {w w0 : World} {v r : Bool} {fn : Func} (hfn : fn.results = #[.tmp 4]) (F : Fr A 174 n) (hv : A.eval (.tmp 4) = .bool v) (hr : v = r) (hb : Below w0.heap.size w0 w) :
    bodyPost Tryz.prog fn (fun e w' => e = .returned (.bool r) ∧ Below w0.heap.size w0 w') .ret A w :=
  bodyPost_ret (v := .bool v) ((results_tmp hfn _ _ _).trans (congrArg (fun v => Result.ok v w) hv)) F.defers ⟨bool_eq hr, hb⟩

theorem load_two {ops : Array Oper} {Q : Exit → Act → World → Prop} {A : Act} {w : World} {rest : List Oper} {N q n j : Nat} {T : TypeId} {u v : Value} {o1 o2 o3 o4 : Oper} {gd : Option (Nat × Bool)} (F : Fr A N n) (h4 : 3 < q) (hN : q + 3 < N)
    (e1 : o1.dst = some q ∧ o1.op = .fieldAddr 31 (.tmp 2) j ∧ o1.guard = gd) (e2 : o2.dst = some (q + 1) ∧ o2.op = .load T (.tmp q) ∧ o2.guard = gd)
    (e3 : o3.dst = some (q + 2) ∧ o3.op = .fieldAddr 31 (.tmp 3) j ∧ o3.guard = gd) (e4 : o4.dst = some (q + 3) ∧ o4.op = .load T (.tmp (q + 2)) ∧ o4.guard = gd)
    (hw : ∀ B : Act, B.tmps.size = N → (∀ t : Nat, t < q → B.eval (.tmp t) = A.eval (.tmp t)) → ∀ o : Oper, o.guard = gd → Region.wanted o (yielded ops B.tmps) = true)
    (hj : j < 25) (hT : (isAgg T).run Tryz.prog w = .ok false w) (cu : w.cell? ⟨n, j, none⟩ = some u) (cv : w.cell? ⟨n + 1, j, none⟩ = some v)
    (h : ∀ A', Fr A' N n → A'.eval (.tmp (q + 1)) = u → A'.eval (.tmp (q + 3)) = v → (∀ t : Nat, t < q → A'.eval (.tmp t) = A.eval (.tmp t)) → wpList Tryz.prog ops Q rest A' w) : wpList Tryz.prog ops Q (o1 :: o2 :: o3 :: o4 :: rest) A w := by
  have hs := F.size
  have F1 : ∀ x, Fr (A.put (some q) x) N n := fun x => F.put h4
  have F2 : ∀ x y, Fr ((A.put (some q) x).put (some (q + 1)) y) N n := fun x y => (F1 x).put (by omega)
  have F3 : ∀ x y z, Fr (((A.put (some q) x).put (some (q + 1)) y).put (some (q + 2)) z) N n := fun x y z => (F2 x y).put (by omega)
  have F4 : ∀ x y z t, Fr ((((A.put (some q) x).put (some (q + 1)) y).put (some (q + 2)) z).put (some (q + 3)) t) N n := fun x y z t => (F3 x y z).put (by omega)
  have k1 : ∀ x, ∀ t : Nat, t < q → (A.put (some q) x).eval (.tmp t) = A.eval (.tmp t) := fun x t ht => put_other (by omega)
  have k2 : ∀ x y, ∀ t : Nat, t < q → ((A.put (some q) x).put (some (q + 1)) y).eval (.tmp t) = A.eval (.tmp t) := fun x y t ht => (put_other (by omega)).trans (k1 x t ht)
  have k3 : ∀ x y z, ∀ t : Nat, t < q → (((A.put (some q) x).put (some (q + 1)) y).put (some (q + 2)) z).eval (.tmp t) = A.eval (.tmp t) := fun x y z t ht => (put_other (by omega)).trans (k2 x y t ht)
  have k4 : ∀ x y z r, ∀ t : Nat, t < q → ((((A.put (some q) x).put (some (q + 1)) y).put (some (q + 2)) z).put (some (q + 3)) r).eval (.tmp t) = A.eval (.tmp t) := fun x y z r t ht => (put_other (by omega)).trans (k3 x y z t ht)
  refine st_yes (hw _ hs (fun _ _ => rfl) _ e1.2.2) e1.1 (ex_field e1.2.1 hj F.x) ?_
  refine st_yes (hw _ (F1 _).size (k1 _) _ e2.2.2) e2.1 (ex_load e2.2.1 hT (put_same (by omega)) cu) ?_
  refine st_yes (hw _ (F2 _ _).size (k2 _ _) _ e3.2.2) e3.1 (ex_field e3.2.1 hj (F2 _ _).y) ?_
  refine st_yes (hw _ (F3 _ _ _).size (k3 _ _ _) _ e4.2.2) e4.1 (ex_load e4.2.1 hT (put_same (by simp only [put_size]; omega)) cv) ?_
  exact h _ (F4 _ _ _ _) ((put_other (by omega)).trans ((put_other (by omega)).trans (put_same (by simp only [put_size]; omega)))) (put_same (by simp only [put_size]; omega)) (k4 _ _ _ _)

set_option maxHeartbeats 6400000 in
set_option maxRecDepth 100000 in
theorem rsame_any (a b : M) (w : World) (ha : a.In w) (hb : b.In w) :
    Calls Tryz.prog 32 #[.agg a.cells, .agg b.cells] w fun e w' => e = .returned (.bool (M.same a b)) ∧ Below w.heap.size w w' := by
  have PD := Lib.hid (fun W (h : S2 w a b W) => heldP (S2 w a b) S2.keep (rdests_any a.la b.la a.lc b.lc a.ll b.ll W h.2.2.1.d h.2.2.2.1.d h.2.2.1.dl h.2.2.2.1.dl) h)
  have PS := Lib.hid (fun W (h : S2 w a b W) => heldP (S2 w a b) S2.keep (rsubs_any a.sa b.sa a.sc b.sc a.sl b.sl W h.2.2.1.s h.2.2.2.1.s h.2.2.1.sl h.2.2.2.1.sl) h)
  have H1 : Hid (M.same a b = (!(((((((((((a.kind != b.kind) || (a.cmd != b.cmd)) || (a.ver != b.ver)) || (!(a.auth.toList == b.auth.toList))) || (a.family != b.family)) || (a.ae != b.ae)) || (!(a.pfx.toList == b.pfx.toList))) || (a.plen != b.plen)) || (a.tag != b.tag)) || (!(a.next.toList == b.next.toList))) || (a.metric != b.metric)) && (!((((((((((((!(a.id.toList == b.id.toList)) || (a.seq != b.seq)) || (a.seq2 != b.seq2)) || (a.interval != b.interval)) || (a.flags != b.flags)) || (a.hops != b.hops)) || (a.nonce != b.nonce)) || (a.cost != b.cost)) || (!(a.addr.toList == b.addr.toList))) || (!(a.orig.toList == b.orig.toList))) || (a.typ != b.typ)) || (!(a.data.toList == b.data.toList))) && (decide (a.ll = b.ll) && decide (a.sl = b.sl))))) := Lib.hid (by simp [M.same, M.flatE, Bool.and_assoc, bne, Bool.not_or])
  obtain ⟨ba, bb, bel⟩ := SameP.start w a b
  have h0 : S2 w a b ((w.alloc (.cells a.cells 31)).alloc (.cells b.cells 31)) := ⟨ba, bb, ha.below (balloc (balloc (Below.refl _ _) _) _), hb.below (balloc (balloc (Below.refl _ _) _) _), bel⟩
  clear ba bb bel ha hb
  go_enter Tryz.func32, Tryz.ntmps32
  go_upto_region 1 with fail
  rename_i Q1 K1 hK1 K2 hK2
  generalize (w.alloc (.cells a.cells 31)).alloc (.cells b.cells 31) = V at *
  have C := h0.1.cs
  have D := h0.2.1.cs
  refine with_frame (n := w.heap.size) (fun A F => ?_) ⟨rfl, rfl, rfl, rfl⟩
  refine wp_region_lit ?_
  refine first_group (p := 5) (N := 174) F (by decide) (by decide) ⟨rfl, rfl, rfl⟩ ⟨rfl, rfl, rfl⟩ ⟨rfl, rfl, rfl⟩ ⟨rfl, rfl, rfl⟩ ⟨rfl, rfl, rfl⟩ (by decide) (agg_int _) C.c0 D.c0 (ni a.kind b.kind _).1 (ni a.kind b.kind _).2 (fun A F hp => ?_)
  refine or_group (p := 9) (g := 5) (N := 174) F hp (by decide) (by decide) ⟨rfl, rfl, rfl⟩ ⟨rfl, rfl, rfl⟩ ⟨rfl, rfl, rfl⟩ ⟨rfl, rfl, rfl⟩ ⟨rfl, rfl, rfl⟩ ⟨rfl, rfl, rfl⟩ ⟨rfl, rfl, rfl⟩ rfl (by decide) (agg_int _) C.c1 D.c1 (ni a.cmd b.cmd _).1 (ni a.cmd b.cmd _).2 (fun A F hp => ?_)
  refine or_group (p := 16) (g := 12) (N := 174) F hp (by decide) (by decide) ⟨rfl, rfl, rfl⟩ ⟨rfl, rfl, rfl⟩ ⟨rfl, rfl, rfl⟩ ⟨rfl, rfl, rfl⟩ ⟨rfl, rfl, rfl⟩ ⟨rfl, rfl, rfl⟩ ⟨rfl, rfl, rfl⟩ rfl (by decide) (agg_int _) C.c2 D.c2 (ni a.ver b.ver _).1 (ni a.ver b.ver _).2 (fun A F hp => ?_)
  refine or_group (p := 23) (g := 19) (N := 174) F hp (by decide) (by decide) ⟨rfl, rfl, rfl⟩ ⟨rfl, rfl, rfl⟩ ⟨rfl, rfl, rfl⟩ ⟨rfl, rfl, rfl⟩ ⟨rfl, rfl, rfl⟩ ⟨rfl, rfl, rfl⟩ ⟨rfl, rfl, rfl⟩ rfl (by decide) (agg_str _) C.c3 D.c3 (ns a.auth b.auth _).1 (ns a.auth b.auth _).2 (fun A F hp => ?_)
  refine or_group (p := 30) (g := 26) (N := 174) F hp (by decide) (by decide) ⟨rfl, rfl, rfl⟩ ⟨rfl, rfl, rfl⟩ ⟨rfl, rfl, rfl⟩ ⟨rfl, rfl, rfl⟩ ⟨rfl, rfl, rfl⟩ ⟨rfl, rfl, rfl⟩ ⟨rfl, rfl, rfl⟩ rfl (by decide) (agg_int _) C.c4 D.c4 (ni a.family b.family _).1 (ni a.family b.family _).2 (fun A F hp => ?_)
  refine or_group (p := 37) (g := 33) (N := 174) F hp (by decide) (by decide) ⟨rfl, rfl, rfl⟩ ⟨rfl, rfl, rfl⟩ ⟨rfl, rfl, rfl⟩ ⟨rfl, rfl, rfl⟩ ⟨rfl, rfl, rfl⟩ ⟨rfl, rfl, rfl⟩ ⟨rfl, rfl, rfl⟩ rfl (by decide) (agg_int _) C.c5 D.c5 (ni a.ae b.ae _).1 (ni a.ae b.ae _).2 (fun A F hp => ?_)
  refine or_group (p := 44) (g := 40) (N := 174) F hp (by decide) (by decide) ⟨rfl, rfl, rfl⟩ ⟨rfl, rfl, rfl⟩ ⟨rfl, rfl, rfl⟩ ⟨rfl, rfl, rfl⟩ ⟨rfl, rfl, rfl⟩ ⟨rfl, rfl, rfl⟩ ⟨rfl, rfl, rfl⟩ rfl (by decide) (agg_str _) C.c6 D.c6 (ns a.pfx b.pfx _).1 (ns a.pfx b.pfx _).2 (fun A F hp => ?_)
  refine or_group (p := 51) (g := 47) (N := 174) F hp (by decide) (by decide) ⟨rfl, rfl, rfl⟩ ⟨rfl, rfl, rfl⟩ ⟨rfl, rfl, rfl⟩ ⟨rfl, rfl, rfl⟩ ⟨rfl, rfl, rfl⟩ ⟨rfl, rfl, rfl⟩ ⟨rfl, rfl, rfl⟩ rfl (by decide) (agg_int _) C.c7 D.c7 (ni a.plen b.plen _).1 (ni a.plen b.plen _).2 (fun A F hp => ?_)
  refine or_group (p := 58) (g := 54) (N := 174) F hp (by decide) (by decide) ⟨rfl, rfl, rfl⟩ ⟨rfl, rfl, rfl⟩ ⟨rfl, rfl, rfl⟩ ⟨rfl, rfl, rfl⟩ ⟨rfl, rfl, rfl⟩ ⟨rfl, rfl, rfl⟩ ⟨rfl, rfl, rfl⟩ rfl (by decide) (agg_int _) C.c8 D.c8 (ni a.tag b.tag _).1 (ni a.tag b.tag _).2 (fun A F hp => ?_)
  refine or_group (p := 65) (g := 61) (N := 174) F hp (by decide) (by decide) ⟨rfl, rfl, rfl⟩ ⟨rfl, rfl, rfl⟩ ⟨rfl, rfl, rfl⟩ ⟨rfl, rfl, rfl⟩ ⟨rfl, rfl, rfl⟩ ⟨rfl, rfl, rfl⟩ ⟨rfl, rfl, rfl⟩ rfl (by decide) (agg_str _) C.c9 D.c9 (ns a.next b.next _).1 (ns a.next b.next _).2 (fun A F hp => ?_)
  refine or_group (p := 72) (g := 68) (N := 174) F hp (by decide) (by decide) ⟨rfl, rfl, rfl⟩ ⟨rfl, rfl, rfl⟩ ⟨rfl, rfl, rfl⟩ ⟨rfl, rfl, rfl⟩ ⟨rfl, rfl, rfl⟩ ⟨rfl, rfl, rfl⟩ ⟨rfl, rfl, rfl⟩ rfl (by decide) (agg_int _) C.c10 D.c10 (ni a.metric b.metric _).1 (ni a.metric b.metric _).2 (fun A F hp => ?_)
  refine wpList_nil ?_
  refine hK2 _ _ ?_
  refine wp_cond_split hp (fun ht => ?_) (fun hf => ?_)
  · refine wp_seq (wp_region_lit (l := [_]) ?_)
    refine st_yes (v := .bool false) (wanted_none rfl) rfl rfl (wpList_nil ?_)
    refine wp_ret ?_
    exact ret_slot4 (v := false) rfl (F.put (d := 4) (by decide)) (put_same (by rw [F.size]; decide)) (by rw [H1.out, ht]; simp) h0.2.2.2.2
  refine wp_skip ?_
  refine hK1 _ _ ?_
  clear hK1 hK2 hp
  refine wp_seq (wp_seq (wp_region_lit ?_))
  refine first_group (p := 80) (N := 174) F (by decide) (by decide) ⟨rfl, rfl, rfl⟩ ⟨rfl, rfl, rfl⟩ ⟨rfl, rfl, rfl⟩ ⟨rfl, rfl, rfl⟩ ⟨rfl, rfl, rfl⟩ (by decide) (agg_str _) C.c11 D.c11 (ns a.id b.id _).1 (ns a.id b.id _).2 (fun A F hp => ?_)
  refine or_group (p := 84) (g := 5) (N := 174) F hp (by decide) (by decide) ⟨rfl, rfl, rfl⟩ ⟨rfl, rfl, rfl⟩ ⟨rfl, rfl, rfl⟩ ⟨rfl, rfl, rfl⟩ ⟨rfl, rfl, rfl⟩ ⟨rfl, rfl, rfl⟩ ⟨rfl, rfl, rfl⟩ rfl (by decide) (agg_int _) C.c12 D.c12 (ni a.seq b.seq _).1 (ni a.seq b.seq _).2 (fun A F hp => ?_)
  refine or_group (p := 91) (g := 12) (N := 174) F hp (by decide) (by decide) ⟨rfl, rfl, rfl⟩ ⟨rfl, rfl, rfl⟩ ⟨rfl, rfl, rfl⟩ ⟨rfl, rfl, rfl⟩ ⟨rfl, rfl, rfl⟩ ⟨rfl, rfl, rfl⟩ ⟨rfl, rfl, rfl⟩ rfl (by decide) (agg_int _) C.c13 D.c13 (ni a.seq2 b.seq2 _).1 (ni a.seq2 b.seq2 _).2 (fun A F hp => ?_)
  refine or_group (p := 98) (g := 19) (N := 174) F hp (by decide) (by decide) ⟨rfl, rfl, rfl⟩ ⟨rfl, rfl, rfl⟩ ⟨rfl, rfl, rfl⟩ ⟨rfl, rfl, rfl⟩ ⟨rfl, rfl, rfl⟩ ⟨rfl, rfl, rfl⟩ ⟨rfl, rfl, rfl⟩ rfl (by decide) (agg_int _) C.c14 D.c14 (ni a.interval b.interval _).1 (ni a.interval b.interval _).2 (fun A F hp => ?_)
  refine or_group (p := 105) (g := 26) (N := 174) F hp (by decide) (by decide) ⟨rfl, rfl, rfl⟩ ⟨rfl, rfl, rfl⟩ ⟨rfl, rfl, rfl⟩ ⟨rfl, rfl, rfl⟩ ⟨rfl, rfl, rfl⟩ ⟨rfl, rfl, rfl⟩ ⟨rfl, rfl, rfl⟩ rfl (by decide) (agg_int _) C.c15 D.c15 (ni a.flags b.flags _).1 (ni a.flags b.flags _).2 (fun A F hp => ?_)
  refine or_group (p := 112) (g := 33) (N := 174) F hp (by decide) (by decide) ⟨rfl, rfl, rfl⟩ ⟨rfl, rfl, rfl⟩ ⟨rfl, rfl, rfl⟩ ⟨rfl, rfl, rfl⟩ ⟨rfl, rfl, rfl⟩ ⟨rfl, rfl, rfl⟩ ⟨rfl, rfl, rfl⟩ rfl (by decide) (agg_int _) C.c16 D.c16 (ni a.hops b.hops _).1 (ni a.hops b.hops _).2 (fun A F hp => ?_)
  refine or_group (p := 119) (g := 40) (N := 174) F hp (by decide) (by decide) ⟨rfl, rfl, rfl⟩ ⟨rfl, rfl, rfl⟩ ⟨rfl, rfl, rfl⟩ ⟨rfl, rfl, rfl⟩ ⟨rfl, rfl, rfl⟩ ⟨rfl, rfl, rfl⟩ ⟨rfl, rfl, rfl⟩ rfl (by decide) (agg_int _) C.c17 D.c17 (ni a.nonce b.nonce _).1 (ni a.nonce b.nonce _).2 (fun A F hp => ?_)
  refine or_group (p := 126) (g := 47) (N := 174) F hp (by decide) (by decide) ⟨rfl, rfl, rfl⟩ ⟨rfl, rfl, rfl⟩ ⟨rfl, rfl, rfl⟩ ⟨rfl, rfl, rfl⟩ ⟨rfl, rfl, rfl⟩ ⟨rfl, rfl, rfl⟩ ⟨rfl, rfl, rfl⟩ rfl (by decide) (agg_int _) C.c18 D.c18 (ni a.cost b.cost _).1 (ni a.cost b.cost _).2 (fun A F hp => ?_)
  refine or_group (p := 133) (g := 54) (N := 174) F hp (by decide) (by decide) ⟨rfl, rfl, rfl⟩ ⟨rfl, rfl, rfl⟩ ⟨rfl, rfl, rfl⟩ ⟨rfl, rfl, rfl⟩ ⟨rfl, rfl, rfl⟩ ⟨rfl, rfl, rfl⟩ ⟨rfl, rfl, rfl⟩ rfl (by decide) (agg_str _) C.c19 D.c19 (ns a.addr b.addr _).1 (ns a.addr b.addr _).2 (fun A F hp => ?_)
  refine or_group (p := 140) (g := 61) (N := 174) F hp (by decide) (by decide) ⟨rfl, rfl, rfl⟩ ⟨rfl, rfl, rfl⟩ ⟨rfl, rfl, rfl⟩ ⟨rfl, rfl, rfl⟩ ⟨rfl, rfl, rfl⟩ ⟨rfl, rfl, rfl⟩ ⟨rfl, rfl, rfl⟩ rfl (by decide) (agg_str _) C.c20 D.c20 (ns a.orig b.orig _).1 (ns a.orig b.orig _).2 (fun A F hp => ?_)
  refine or_group (p := 147) (g := 68) (N := 174) F hp (by decide) (by decide) ⟨rfl, rfl, rfl⟩ ⟨rfl, rfl, rfl⟩ ⟨rfl, rfl, rfl⟩ ⟨rfl, rfl, rfl⟩ ⟨rfl, rfl, rfl⟩ ⟨rfl, rfl, rfl⟩ ⟨rfl, rfl, rfl⟩ rfl (by decide) (agg_int _) C.c22 D.c22 (ni a.typ b.typ _).1 (ni a.typ b.typ _).2 (fun A F hp => ?_)
  refine or_group (p := 154) (g := 75) (N := 174) F hp (by decide) (by decide) ⟨rfl, rfl, rfl⟩ ⟨rfl, rfl, rfl⟩ ⟨rfl, rfl, rfl⟩ ⟨rfl, rfl, rfl⟩ ⟨rfl, rfl, rfl⟩ ⟨rfl, rfl, rfl⟩ ⟨rfl, rfl, rfl⟩ rfl (by decide) (agg_str _) C.c23 D.c23 (ns a.data b.data _).1 (ns a.data b.data _).2 (fun A F hp => ?_)
  refine wpList_nil ?_
  refine wp_cond_split hp (fun ht => ?_) (fun hf2 => ?_)
  · refine wp_seq (wp_region_lit (l := [_]) ?_)
    refine st_yes (v := .bool false) (wanted_none rfl) rfl rfl (wpList_nil ?_)
    refine wp_ret ?_
    exact ret_slot4 (v := false) rfl (F.put (d := 4) (by decide)) (put_same (by rw [F.size]; decide)) (by rw [H1.out, ht]; simp) h0.2.2.2.2
  refine wp_skip ?_
  have H2 : M.same a b = (decide (a.ll = b.ll) && decide (a.sl = b.sl)) := by rw [H1.out, hf, hf2]; simp
  clear hp H1 hf hf2
  refine wp_seq (wp_region_lit (l := [_, _, _, _, _, _, _, _, _, _, _, _, _]) ?_)
  refine load_two (q := 162) (N := 174) (gd := none) F (by decide) (by decide) ⟨rfl, rfl, rfl⟩ ⟨rfl, rfl, rfl⟩ ⟨rfl, rfl, rfl⟩ ⟨rfl, rfl, rfl⟩ (fun _ _ _ o ho => wanted_none ho) (by decide) (agg_sl _).1 C.c21 D.c21 (fun A F e1 e2 _ => ?_)
  refine st_call (d := 166) (S := S2 w a b) (wanted_none rfl) rfl rfl (vs := #[.slice a.la a.ll.length a.lc, .slice b.la b.ll.length b.lc]) (by simp only [List.map_toArray, List.map_cons, List.map_nil, e1, e2]) (by go_simp) (PD.out _ h0) (fun W hS => ?_)
  have C := hS.1.cs
  have D := hS.2.1.cs
  have k1 : (A.put (some 166) (.bool (decide (a.ll = b.ll)))).eval (.tmp 166) = .bool (decide (a.ll = b.ll)) := put_same (by rw [F.size]; decide)
  have F1 := F.put (d := 166) (v := .bool (decide (a.ll = b.ll))) (by decide)
  clear F e1 e2
  generalize A.put (some 166) (.bool (decide (a.ll = b.ll))) = B at k1 F1 ⊢
  generalize decide (a.ll = b.ll) = r at k1 H2
  refine st_yes (v := .bool r) (wanted_none rfl) rfl (by rw [BigFrame.run_move _ rfl, k1]) ?_
  have k2 : (B.put (some 167) (.bool r)).eval (.tmp 167) = .bool r := put_same (by rw [F1.size]; decide)
  have F2 := F1.put (d := 167) (v := .bool r) (by decide)
  clear F1 k1
  generalize B.put (some 167) (.bool r) = B at k2 F2 ⊢
  cases r
  · refine st_no (by rw [wanted_some rfl rfl (by rw [F2.size]; decide) k2]; rfl) rfl ?_
    have F3 := F2.put (d := 168) (v := undef) (by decide)
    have k3 : (B.put (some 168) undef).eval (.tmp 167) = .bool false := (put_other (by decide)).trans k2
    generalize B.put (some 168) undef = B at k3 F3 ⊢
    refine st_no (by rw [wanted_some rfl rfl (by rw [F3.size]; decide) k3]; rfl) rfl ?_
    have F4 := F3.put (d := 169) (v := undef) (by decide)
    have k4 : (B.put (some 169) undef).eval (.tmp 167) = .bool false := (put_other (by decide)).trans k3
    generalize B.put (some 169) undef = B at k4 F4 ⊢
    refine st_no (by rw [wanted_some rfl rfl (by rw [F4.size]; decide) k4]; rfl) rfl ?_
    have F5 := F4.put (d := 170) (v := undef) (by decide)
    have k5 : (B.put (some 170) undef).eval (.tmp 167) = .bool false := (put_other (by decide)).trans k4
    generalize B.put (some 170) undef = B at k5 F5 ⊢
    refine st_no (by rw [wanted_some rfl rfl (by rw [F5.size]; decide) k5]; rfl) rfl ?_
    have F6 := F5.put (d := 171) (v := undef) (by decide)
    have k6 : (B.put (some 171) undef).eval (.tmp 167) = .bool false := (put_other (by decide)).trans k5
    generalize B.put (some 171) undef = B at k6 F6 ⊢
    refine st_no (by rw [wanted_some rfl rfl (by rw [F6.size]; decide) k6]; rfl) rfl ?_
    have F7 := F6.put (d := 172) (v := undef) (by decide)
    have k7 : (B.put (some 172) undef).eval (.tmp 167) = .bool false := (put_other (by decide)).trans k6
    generalize B.put (some 172) undef = B at k7 F7 ⊢
    refine st_yes (v := .bool false) (wanted_none rfl) rfl ((ex_pick rfl k7).trans (by rw [if_neg (by decide)]; rfl)) ?_
    have k8 : (B.put (some 173) (.bool false)).eval (.tmp 173) = .bool false := put_same (by rw [F7.size]; decide)
    have F8 := F7.put (d := 173) (v := .bool false) (by decide)
    generalize B.put (some 173) (.bool false) = B at k8 F8 ⊢
    refine st_yes (v := .bool false) (wanted_none rfl) rfl (by rw [BigFrame.run_assign _ rfl, k8]) (wpList_nil ?_)
    refine wp_ret ?_
    exact ret_slot4 (v := false) rfl (F8.put (d := 4) (by decide)) (put_same (by rw [F8.size]; decide)) (by rw [H2]; simp) hS.2.2.2.2
  · refine load_two (q := 168) (N := 174) (gd := some (5, true)) F2 (by decide) (by decide) ⟨rfl, rfl, rfl⟩ ⟨rfl, rfl, rfl⟩ ⟨rfl, rfl, rfl⟩ ⟨rfl, rfl, rfl⟩ (fun B' hs hk o ho => by rw [wanted_some ho rfl (by rw [hs]; decide) ((hk 167 (by decide)).trans k2)]; rfl) (by decide) (agg_sl _).2 C.c24 D.c24 (fun A F e1 e2 hk => ?_)
    have k3 : A.eval (.tmp 167) = .bool true := (hk 167 (by decide)).trans k2
    refine st_call (d := 172) (S := S2 w a b) (by rw [wanted_some rfl rfl (by rw [F.size]; decide) k3]; rfl) rfl rfl (vs := #[.slice a.sa a.sl.length a.sc, .slice b.sa b.sl.length b.sc]) (by simp only [List.map_toArray, List.map_cons, List.map_nil, e1, e2]) (by go_simp) (PS.out _ hS) (fun W hS => ?_)
    have k4 : (A.put (some 172) (.bool (decide (a.sl = b.sl)))).eval (.tmp 172) = .bool (decide (a.sl = b.sl)) := put_same (by rw [F.size]; decide)
    have k5 : (A.put (some 172) (.bool (decide (a.sl = b.sl)))).eval (.tmp 167) = .bool true := (put_other (by decide)).trans k3
    have F3 := F.put (d := 172) (v := .bool (decide (a.sl = b.sl))) (by decide)
    generalize A.put (some 172) (.bool (decide (a.sl = b.sl))) = B at k4 k5 F3 ⊢
    refine st_yes (v := .bool (decide (a.sl = b.sl))) (wanted_none rfl) rfl ((ex_pick rfl k5).trans (by rw [if_pos rfl, k4])) ?_
    have k8 : (B.put (some 173) (.bool (decide (a.sl = b.sl)))).eval (.tmp 173) = .bool (decide (a.sl = b.sl)) := put_same (by rw [F3.size]; decide)
    have F8 := F3.put (d := 173) (v := .bool (decide (a.sl = b.sl))) (by decide)
    generalize B.put (some 173) (.bool (decide (a.sl = b.sl))) = B at k8 F8 ⊢
    refine st_yes (v := .bool (decide (a.sl = b.sl))) (wanted_none rfl) rfl (by rw [BigFrame.run_assign _ rfl, k8]) (wpList_nil ?_)
    refine wp_ret ?_
    exact ret_slot4 rfl (F8.put (d := 4) (by decide)) (put_same (by rw [F8.size]; decide)) (by rw [H2]; simp) hS.2.2.2.2
end Go.Proofs.YteecialdkfaejaaGreatDoor.RSame
