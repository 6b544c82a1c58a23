/-
  The program's calls on the reader: a number, a text, the rest, the fields of each type. Conditions: at most 2^20 bytes.
  The TLVs of bytes: the program's Split. Condition: at most 100000 bytes, from a place of at most 2^40 on.
  Which Subs bytes hold: the program's sift and Get. Condition: at most 100000 bytes.
  The program's Get and Take: the request, the Update that a TLV says. Conditions: a type of theirs, at most 100000 bytes; the variable has what it is laid with.
  A stepper's block; an address's short and long bytes, the router-id in it, an Update's address by what is known, what its flags say, whether it is told. Conditions: what is known may be, the Update counts; the variables have what they are laid with.
  What an Update's flags say, whether it is told, its message. Conditions: the Update counts; the Subs stand in the world.
  The program's steps: a router-id's TLV, a next hop's, an Update, any of them. Conditions: what is known may be; at most 100000 bytes; the variables have what they are laid with.
  The program's step over any TLV of the types 6 to 8. Conditions: what is known may be; at most 100000 bytes; the variables have what they are laid with.
-/
import Derived.Test.YtjhfpobjbijcpaaGreatDoorB01
import Derived.Test.YtjhfpobjbijcpaaGreatDoorB04
import Derived.Test.YtjhfpobjbijcpaaGreatDoorB16
import Derived.Test.YtjhfpobjbijcpaaGreatDoorB18
import Derived.Test.YtjhfpobjbijcpaaGreatDoorB19
import Derived.Test.YtjhfpobjbijcpaaGreatDoorB20
import Derived.Test.YtjhfpobjbijcpaaGreatDoorB22
import Derived.Test.YtjhfpobjbijcpaaGreatDoorB23
namespace Go.Proofs.YtjhfpobjbijcpaaGreatDoor.J4
open Go.ChangeShapes Go.WideShapes Go.ChangeAt Go.RowKit
open Go.Proofs.YtjhfpobjbijcpaaGreatDoor.Ms
open Go.Proofs.YtjhfpobjbijcpaaGreatDoor.Box
open Go.Proofs.YtjhfpobjbijcpaaGreatDoor.Nu
open Go.Proofs.YtjhfpobjbijcpaaGreatDoor.J1
open Go.Proofs.YtjhfpobjbijcpaaGreatDoor.J2
open Go.Proofs.YtjhfpobjbijcpaaGreatDoor.An
open Go.Proofs.YtjhfpobjbijcpaaGreatDoor.Tc
open Go.Proofs.YtjhfpobjbijcpaaGreatDoor.F1 (bt bt_nn bt_lt num_two)
open Go.Proofs.YtjhfpobjbijcpaaGreatDoor.Cur (numL)
open Go.Proofs.YtjhfpobjbijcpaaGreatDoor.Bk (Bk Sh loadVarK wpList_builtK wpList_loadK wpList_storeK run_loadK alloc_size results_pair)
open Go.Proofs.YtjhfpobjbijcpaaGreatDoor.Hs
set_option linter.unusedVariables false
set_option maxRecDepth 100000
set_option maxRecDepth 100000
theorem shU : Sh Tryz.prog 120 10 := ⟨_, Tryz.underlying120, by kernel_rfl⟩
theorem oneU (x : Up) : (x.cells.all fun x => x.oneCell') = true := by simp [Up.cells, Value.oneCell']
theorem wpList_loadU {ops : Array Oper} {rest : List Oper} {o : Oper} {a : Act} {w : World} {Q : Exit → Act → World → Prop} (hgd : o.guard = none) (x : Operand) (ho : o.op = .load 120 x) {b : Nat} (hx : a.eval x = .pointer (some ⟨b, 0, none⟩)) {m : Up} (hb : Bk 120 w b m.cells)
    (h : wpList Tryz.prog ops Q rest (a.put o.dst (.agg m.cells)) w) : wpList Tryz.prog ops Q (o :: rest) a w := wpList_loadK shU hgd x ho hx hb rfl h
theorem wpList_storeU {ops : Array Oper} {rest : List Oper} {o : Oper} {a : Act} {w : World} {Q : Exit → Act → World → Prop} (hgd : o.guard = none) (x y : Operand) (ho : o.op = .store 120 x y) {b : Nat} (hx : a.eval x = .pointer (some ⟨b, 0, none⟩)) {m m' : Up} (hy : a.eval y = .agg m'.cells) (hb : Bk 120 w b m.cells)
    (h : wpList Tryz.prog ops Q rest (a.put o.dst undef) (w.setRow b m'.cells)) : wpList Tryz.prog ops Q (o :: rest) a w := wpList_storeK shU hgd x y ho hx hy hb rfl rfl (oneU m') h
end Go.Proofs.YtjhfpobjbijcpaaGreatDoor.J4
namespace Go.Proofs.YtjhfpobjbijcpaaGreatDoor.F4
open Go.ChangeShapes Go.WideShapes Go.ChangeAt Go.RowKit
open Go.Proofs.YtjhfpobjbijcpaaGreatDoor.F1
open Go.Proofs.YtjhfpobjbijcpaaGreatDoor.F2
open Go.Proofs.YtjhfpobjbijcpaaGreatDoor.Bk (Bk Sh loadVarK wpList_builtK wpList_loadK wpList_storeK run_loadK alloc_size)
open Go.Proofs.YtjhfpobjbijcpaaGreatDoor.Hs
open Go.Proofs.YtjhfpobjbijcpaaGreatDoor.Hx (conv8 ex_built H.storeRow)
open Go.Proofs.YtjhfpobjbijcpaaGreatDoor.Tl (cellsT oneT shT Lst TRow bs_one app_one cells_new)
set_option linter.unusedVariables false
set_option maxRecDepth 100000
set_option maxRecDepth 100000

/-- The answer: TLVs, a place, an error; the list is the call's own. -/
def AnsT (p : List T × Int × Int) (w : World) (e : Ending) (w' : World) : Prop :=
  ∃ a c, e = .returned (.tuple #[.slice a p.1.length c, .int .i64 p.2.1, .int .i64 p.2.2]) ∧ Lst w.heap.size w' (.slice a p.1.length c) p.1 ∧ Below w.heap.size w w'
theorem AnsT.no {p : List T × Int × Int} {w w' : World} {c d : Int} (h : p = ([], c, d)) (hb : Below w.heap.size w w') : AnsT p w (.returned (.tuple #[.slice none 0 0, .int .i64 c, .int .i64 d])) w' := by
  subst h
  exact ⟨none, 0, rfl, Lst.nil _ _, hb⟩
theorem AnsT.yes {p : List T × Int × Int} {w w' : World} {a : Option Addr} {c n : Nat} {l : List T} (h : p = (l, 0, 0)) (hn : l.length = n) (hl : Lst w.heap.size w' (.slice a n c) l) (hb : Below w.heap.size w w') : AnsT p w (.returned (.tuple #[.slice a n c, .int .i64 0, .int .i64 0])) w' := by
  subst h hn
  exact ⟨a, c, rfl, hl, hb⟩
end Go.Proofs.YtjhfpobjbijcpaaGreatDoor.F4
namespace Go.Proofs.YtjhfpobjbijcpaaGreatDoor.S5
open Go.ChangeShapes Go.WideShapes Go.ChangeAt Go.RowKit
open Go.Proofs.YtjhfpobjbijcpaaGreatDoor.Ms
open Go.Proofs.YtjhfpobjbijcpaaGreatDoor.Cnt
open Go.Proofs.YtjhfpobjbijcpaaGreatDoor.S1
open Go.Proofs.YtjhfpobjbijcpaaGreatDoor.S2
open Go.Proofs.YtjhfpobjbijcpaaGreatDoor.F1 (enc1 encT outT placed placed_len okT size_of len_le)
open Go.Proofs.YtjhfpobjbijcpaaGreatDoor.F4 (AnsT)
open Go.Proofs.YtjhfpobjbijcpaaGreatDoor.Tl (TRow cellsT indexT add_two)
open Go.Proofs.YtjhfpobjbijcpaaGreatDoor.Sx (cellsS Lst cells_new)
open Go.Proofs.YtjhfpobjbijcpaaGreatDoor.Bk (Bk Sh wpList_builtK)
set_option linter.unusedVariables false
set_option maxRecDepth 100000
set_option maxRecDepth 100000

/-- The first k of TLVs with places, without them. -/
def els (l : List F1.T) (k : Nat) : List El := (l.take k).map Prod.snd
theorem els_zero (l : List F1.T) : els l 0 = [] := by unfold els; simp
theorem els_snoc (l : List F1.T) (k : Nat) (h : k < l.length) : els l (k + 1) = els l k ++ [l[k].2] := by
  unfold els
  rw [List.take_succ_eq_append_getElem h, List.map_append]
  rfl
theorem els_all (l : List F1.T) : els l l.length = l.map Prod.snd := by unfold els; rw [List.take_length]
theorem els_len (l : List F1.T) (k : Nat) : (els l k).length ≤ k := by unfold els; rw [List.length_map, List.length_take]; omega
theorem lst_mono {B B' : Nat} {w : World} {v : Value} {l : List El} (h : Lst B w v l) (hB : B' ≤ B) : Lst B' w v l := by
  refine ⟨h.1, ?_⟩
  rcases h.2 with h | ⟨k, cap, cur, a, b, c, d⟩
  · exact .inl h
  · exact .inr ⟨k, cap, cur, a, Nat.le_trans hB b, c, d⟩
theorem bool_val {a b : Bool} (h : a = b) : Value.bool a = Value.bool b := by rw [h]

/-- The answer of Get: Subs (the list is the call's own), whether none must be known, an error. -/
def AnsS (p : List El × Bool × Int) (w : World) (e : Ending) (w' : World) : Prop :=
  ∃ a c, e = .returned (.tuple #[.slice a p.1.length c, .bool p.2.1, .int .i64 p.2.2]) ∧ Lst w.heap.size w' (.slice a p.1.length c) p.1 ∧ Below w.heap.size w w'
theorem AnsS.no {p : List El × Bool × Int} {w w' : World} {d : Int} (h : p = ([], false, d)) (hb : Below w.heap.size w w') : AnsS p w (.returned (.tuple #[.slice none 0 0, .bool false, .int .i64 d])) w' := by
  subst h
  exact ⟨none, 0, rfl, Lst.nil _ _, hb⟩
theorem AnsS.yes {p : List El × Bool × Int} {w w' : World} {a : Option Addr} {c n : Nat} {l : List El} {k : Bool} (h : p = (l, k, 0)) (hn : l.length = n) (hl : Lst w.heap.size w' (.slice a n c) l) (hb : Below w.heap.size w w') : AnsS p w (.returned (.tuple #[.slice a n c, .bool k, .int .i64 0])) w' := by
  subst h hn
  exact ⟨a, c, rfl, hl, hb⟩
end Go.Proofs.YtjhfpobjbijcpaaGreatDoor.S5
namespace Go.Proofs.YtjhfpobjbijcpaaGreatDoor.J6
open Go.ChangeShapes Go.WideShapes Go.ChangeAt Go.RowKit
open Go.Proofs.YtjhfpobjbijcpaaGreatDoor.Ms
open Go.Proofs.YtjhfpobjbijcpaaGreatDoor.Box
open Go.Proofs.YtjhfpobjbijcpaaGreatDoor.S1
open Go.Proofs.YtjhfpobjbijcpaaGreatDoor.J1
open Go.Proofs.YtjhfpobjbijcpaaGreatDoor.J2
open Go.Proofs.YtjhfpobjbijcpaaGreatDoor.J4
open Go.Proofs.YtjhfpobjbijcpaaGreatDoor.An
open Go.Proofs.YtjhfpobjbijcpaaGreatDoor.Tc
open Go.Proofs.YtjhfpobjbijcpaaGreatDoor.F1 (bt bt_nn bt_lt)
open Go.Proofs.YtjhfpobjbijcpaaGreatDoor.Tl (cellsT)
open Go.Proofs.YtjhfpobjbijcpaaGreatDoor.Bk (Bk loadVarK wpList_builtK alloc_size)
open Go.Proofs.YtjhfpobjbijcpaaGreatDoor.Hs
set_option linter.unusedVariables false
set_option maxRecDepth 100000
set_option maxRecDepth 100000
theorem lst_cell {B : Nat} {w : World} {v u : Value} {l : List El} {p : Addr} (h : Sx.Lst B w v l) (hg : p.block < B) : Sx.Lst B (w.setCell p u) v l := by
  refine ⟨h.1, ?_⟩
  rcases h.2 with h | ⟨k, cap, cur, a, b, c, d⟩
  · exact .inl h
  · exact .inr ⟨k, cap, cur, a, b, (heap_setCell_other w p k u (by omega)).trans c, d⟩
/-- What Take answers: an Update (its Subs are the call's own), whether it is one, an error. -/
def AnsU (p : Up × Bool × Int) (w : World) (e : Ending) (w' : World) : Prop :=
  ∃ sa sc, e = .returned (.tuple #[.agg (Up.cells { p.1 with sa := sa, sc := sc }), .bool p.2.1, .int .i64 p.2.2]) ∧
    Sx.Lst w.heap.size w' (.slice sa p.1.sl.length sc) p.1.sl ∧ Below w.heap.size w w'
theorem AnsU.no {p : Up × Bool × Int} {w w' : World} {d : Int} (h : p = (Up.zero, false, d)) (hb : Below w.heap.size w w') : AnsU p w (.returned (.tuple #[.agg Up.zero.cells, .bool false, .int .i64 d])) w' := by
  subst h
  exact ⟨none, 0, rfl, Sx.Lst.nil _ _, hb⟩
theorem AnsU.yes {p : Up × Bool × Int} {w w' : World} {r : Up} {a : Option Addr} {l : List El} {c B : Nat} (h : p = ({ r with sl := l }, true, 0)) (hl : Sx.Lst B w' (.slice a l.length c) l) (hB : w.heap.size ≤ B) (hb : Below w.heap.size w w') :
    AnsU p w (.returned (.tuple #[.agg (Up.cells { r with sa := a, sl := l, sc := c }), .bool true, .int .i64 0])) w' := by
  subst h
  exact ⟨a, c, rfl, lst_mono hl hB, hb⟩
end Go.Proofs.YtjhfpobjbijcpaaGreatDoor.J6
namespace Go.Proofs.YtjhfpobjbijcpaaGreatDoor.K3
open Go.ChangeShapes Go.WideShapes Go.ChangeAt Go.RowKit
open Go.Proofs.YtjhfpobjbijcpaaGreatDoor.Ms
open Go.Proofs.YtjhfpobjbijcpaaGreatDoor.Box
open Go.Proofs.YtjhfpobjbijcpaaGreatDoor.S1
open Go.Proofs.YtjhfpobjbijcpaaGreatDoor.Lk (shA lgA link)
open Go.Proofs.YtjhfpobjbijcpaaGreatDoor.Nu (text_eq ext_list)
open Go.Proofs.YtjhfpobjbijcpaaGreatDoor.J1
open Go.Proofs.YtjhfpobjbijcpaaGreatDoor.J2 (bool_eq int_eq str_eq nil_eq nil_em size_eq)
open Go.Proofs.YtjhfpobjbijcpaaGreatDoor.J4 (shU wpList_loadU wpList_storeU)
open Go.Proofs.YtjhfpobjbijcpaaGreatDoor.An
open Go.Proofs.YtjhfpobjbijcpaaGreatDoor.Tc
open Go.Proofs.YtjhfpobjbijcpaaGreatDoor.K1
open Go.Proofs.YtjhfpobjbijcpaaGreatDoor.Kb
open Go.Proofs.YtjhfpobjbijcpaaGreatDoor.K2
open Go.Proofs.YtjhfpobjbijcpaaGreatDoor.Bits (keepL keepL_length keepL_all keepL_keep)
open Go.Proofs.YtjhfpobjbijcpaaGreatDoor.Pre (leastN cutL fillL fillL_length)
open Go.Proofs.YtjhfpobjbijcpaaGreatDoor.Bk (Bk Sh alloc_size wpList_loadK wpList_storeK run_loadK loadVarK)
open Go.Proofs.YtjhfpobjbijcpaaGreatDoor.Hs
open Go.Proofs.YtjhfpobjbijcpaaGreatDoor.Or (st_yes)
set_option linter.unusedVariables false
set_option maxRecDepth 100000
set_option maxRecDepth 100000
def lgC (ae : Int) (a : ByteArray) : ByteArray := if ae = 3 then lgA a else a
section
variable {w W w' : World} {b g : Nat} {c : Kx} {v : Value} {u : Up}
end
end Go.Proofs.YtjhfpobjbijcpaaGreatDoor.K3
namespace Go.Proofs.YtjhfpobjbijcpaaGreatDoor.K4
open Go.ChangeShapes Go.WideShapes Go.ChangeAt Go.RowKit
open Go.Proofs.YtjhfpobjbijcpaaGreatDoor.Ms
open Go.Proofs.YtjhfpobjbijcpaaGreatDoor.Box
open Go.Proofs.YtjhfpobjbijcpaaGreatDoor.S1
open Go.Proofs.YtjhfpobjbijcpaaGreatDoor.J1
open Go.Proofs.YtjhfpobjbijcpaaGreatDoor.J2 (nil_eq nil_em size_eq)
open Go.Proofs.YtjhfpobjbijcpaaGreatDoor.J4 (shU wpList_loadU wpList_storeU)
open Go.Proofs.YtjhfpobjbijcpaaGreatDoor.An
open Go.Proofs.YtjhfpobjbijcpaaGreatDoor.Tc
open Go.Proofs.YtjhfpobjbijcpaaGreatDoor.K1
open Go.Proofs.YtjhfpobjbijcpaaGreatDoor.Kb
open Go.Proofs.YtjhfpobjbijcpaaGreatDoor.K2
open Go.Proofs.YtjhfpobjbijcpaaGreatDoor.K3
open Go.Proofs.YtjhfpobjbijcpaaGreatDoor.Bk (Bk Sh alloc_size wpList_loadK wpList_storeK run_loadK loadVarK wpList_builtK)
open Go.Proofs.YtjhfpobjbijcpaaGreatDoor.Or (st_yes)
set_option linter.unusedVariables false
set_option maxRecDepth 100000
set_option maxRecDepth 100000
/-- An element of a block's array of texts: its address. -/
theorem indexAt4 (b k : Nat) (hk : k < 4) (W : World) : (Instr.indexAt 41 (.pointer (some ⟨b, 0, none⟩)) (.int .i64 (k : Int))).run Tryz.prog W = .ok (.pointer (some ⟨b, k, none⟩)) W := by
  rcases (show k = 0 ∨ k = 1 ∨ k = 2 ∨ k = 3 by omega) with rfl | rfl | rfl | rfl <;> kernel_rfl
theorem indexAt2 (b k : Nat) (hk : k < 2) (W : World) : (Instr.indexAt 42 (.pointer (some ⟨b, 4, none⟩)) (.int .i64 (k : Int))).run Tryz.prog W = .ok (.pointer (some ⟨b, 4 + k, none⟩)) W := by
  rcases (show k = 0 ∨ k = 1 by omega) with rfl | rfl <;> kernel_rfl
theorem ex_indexAt {P : Program} {o : Oper} {ρ : Operand → Value} {T : TypeId} {x y : Operand} {vx vy r : Value} {w : World} (ho : o.op = .indexAddr T x y) (hx : ρ x = vx) (hy : ρ y = vy) (h : (Instr.indexAt T vx vy).run P w = .ok r w) :
    (execOp ρ o).run P w = .ok (.value r) w := by
  unfold execOp
  simp only [ho, hx, hy, Sem.run_bind, h, Result.andThen_ok, Sem.run_pure]
end Go.Proofs.YtjhfpobjbijcpaaGreatDoor.K4
namespace Go.Proofs.YtjhfpobjbijcpaaGreatDoor.K5
open Go.ChangeShapes Go.WideShapes Go.ChangeAt Go.RowKit
open Go.Proofs.YtjhfpobjbijcpaaGreatDoor.Ms
open Go.Proofs.YtjhfpobjbijcpaaGreatDoor.Box
open Go.Proofs.YtjhfpobjbijcpaaGreatDoor.S1
open Go.Proofs.YtjhfpobjbijcpaaGreatDoor.J1
open Go.Proofs.YtjhfpobjbijcpaaGreatDoor.J2 (nil_eq nil_em size_eq)
open Go.Proofs.YtjhfpobjbijcpaaGreatDoor.J4 (shU wpList_loadU wpList_storeU)
open Go.Proofs.YtjhfpobjbijcpaaGreatDoor.J6 (AnsU lst_cell)
open Go.Proofs.YtjhfpobjbijcpaaGreatDoor.An
open Go.Proofs.YtjhfpobjbijcpaaGreatDoor.Tc
open Go.Proofs.YtjhfpobjbijcpaaGreatDoor.K1
open Go.Proofs.YtjhfpobjbijcpaaGreatDoor.Kb
open Go.Proofs.YtjhfpobjbijcpaaGreatDoor.K2
open Go.Proofs.YtjhfpobjbijcpaaGreatDoor.K3
open Go.Proofs.YtjhfpobjbijcpaaGreatDoor.K4
open Go.Proofs.YtjhfpobjbijcpaaGreatDoor.F1 (bt bt_nn bt_lt)
open Go.Proofs.YtjhfpobjbijcpaaGreatDoor.F2 (idx sl_m sl_l)
open Go.Proofs.YtjhfpobjbijcpaaGreatDoor.Hx (conv8)
open Go.Proofs.YtjhfpobjbijcpaaGreatDoor.Tl (cellsT)
open Go.Proofs.YtjhfpobjbijcpaaGreatDoor.Bk (Bk Sh alloc_size wpList_loadK wpList_storeK run_loadK results_pair loadVarK wpList_builtK)
open Go.Proofs.YtjhfpobjbijcpaaGreatDoor.Hs
open Go.Proofs.YtjhfpobjbijcpaaGreatDoor.Or (st_yes)
set_option linter.unusedVariables false
set_option maxRecDepth 100000
set_option maxRecDepth 100000
theorem cnt_with {d : ByteArray} {u : Up} (g : Cnt d u) (a : Option Addr) (k : Nat) : Cnt d { u with sa := a, sc := k } := ⟨g.ae0, g.ae3, g.len, g.om0, g.omle, g.size, g.subs, g.iv, g.seq, g.metric, g.fl0, g.fl1⟩
end Go.Proofs.YtjhfpobjbijcpaaGreatDoor.K5
namespace Go.Proofs.YtjhfpobjbijcpaaGreatDoor.K6
open Go.ChangeShapes Go.WideShapes Go.ChangeAt Go.RowKit
open Go.Proofs.YtjhfpobjbijcpaaGreatDoor.Ms
open Go.Proofs.YtjhfpobjbijcpaaGreatDoor.Box
open Go.Proofs.YtjhfpobjbijcpaaGreatDoor.An
open Go.Proofs.YtjhfpobjbijcpaaGreatDoor.Tc
open Go.Proofs.YtjhfpobjbijcpaaGreatDoor.K1
open Go.Proofs.YtjhfpobjbijcpaaGreatDoor.Kb
open Go.Proofs.YtjhfpobjbijcpaaGreatDoor.K2
open Go.Proofs.YtjhfpobjbijcpaaGreatDoor.K3
open Go.Proofs.YtjhfpobjbijcpaaGreatDoor.K4
open Go.Proofs.YtjhfpobjbijcpaaGreatDoor.K5
open Go.Proofs.YtjhfpobjbijcpaaGreatDoor.Tl (cellsT)
open Go.Proofs.YtjhfpobjbijcpaaGreatDoor.Bk (Bk Sh alloc_size wpList_loadK wpList_storeK run_loadK results_pair loadVarK wpList_builtK)
open Go.Proofs.YtjhfpobjbijcpaaGreatDoor.Hs
open Go.Proofs.YtjhfpobjbijcpaaGreatDoor.Or (st_yes)
set_option linter.unusedVariables false
set_option maxRecDepth 100000
set_option maxRecDepth 100000
theorem infoX : (Tryz.prog.info? 44).map (·.size) = some 7 := by kernel_rfl
end Go.Proofs.YtjhfpobjbijcpaaGreatDoor.K6
