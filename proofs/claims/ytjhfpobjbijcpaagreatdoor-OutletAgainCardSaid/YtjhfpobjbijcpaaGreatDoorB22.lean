/-
  What is known, in a block of its own, read and changed at an index; the boxes of a call with what is known and a message; texts that are equal. No conditions.
  Whether Subs may be: the program's Right and the document's; whether they are few, and the same, as the statements ask. Condition: lists of at most 2^20 elements.
  A message with the fields of its kind alone: the program's answer, kinds 1 to 4.
  A message with the fields of its kind alone: the program's answer, kinds 5 to 9.
  A message with the fields of its kind alone: the program's answer, kinds 10 to 12.
  A message with the fields of its kind alone: the program's answer, kinds 13 to 14, and none.
  Whether a message is bare: the program's answer and the document's. Condition: lists of at most 2^20 elements.
-/
import Derived.Test.YtjhfpobjbijcpaaGreatDoorB07
import Derived.Test.YtjhfpobjbijcpaaGreatDoorB08
import Derived.Test.YtjhfpobjbijcpaaGreatDoorB15
import Derived.Test.YtjhfpobjbijcpaaGreatDoorB16
import Derived.Test.YtjhfpobjbijcpaaGreatDoorB18
import Derived.Test.YtjhfpobjbijcpaaGreatDoorB19
import Derived.Test.YtjhfpobjbijcpaaGreatDoorB20
import Derived.Test.YtjhfpobjbijcpaaGreatDoorB21
import Derived.Deep.WholeRow
namespace Go.Proofs.YtjhfpobjbijcpaaGreatDoor.Cx
open Go.ChangeShapes Go.WideShapes Go.ChangeAt Go.RowKit
open Go.Proofs.YtjhfpobjbijcpaaGreatDoor.Ms
open Go.Proofs.YtjhfpobjbijcpaaGreatDoor.Box
open Go.Proofs.YtjhfpobjbijcpaaGreatDoor.An
open Go.Proofs.YtjhfpobjbijcpaaGreatDoor.K1
open Go.Proofs.YtjhfpobjbijcpaaGreatDoor.Kb
open Go.Proofs.YtjhfpobjbijcpaaGreatDoor.Bk (Bk alloc_size)
set_option linter.unusedVariables false
set_option maxRecDepth 100000
set_option maxRecDepth 100000
theorem infoX : (Tryz.prog.info? 44).map (·.size) = some 7 := by kernel_rfl
theorem pf_at {W : World} {b : Nat} {c : Kx} (h : Bk 44 W b c.cells) {k : Nat} (hk : k < 4) : W.cell? ⟨b, k, none⟩ = some (.string (c.pf k)) := by
  rcases (show k = 0 ∨ k = 1 ∨ k = 2 ∨ k = 3 by omega) with rfl | rfl | rfl | rfl
  · exact h.cell 0 _ rfl
  · exact h.cell 1 _ rfl
  · exact h.cell 2 _ rfl
  · exact h.cell 3 _ rfl
theorem nx_at {W : World} {b : Nat} {c : Kx} (h : Bk 44 W b c.cells) {k : Nat} (hk : k < 2) : W.cell? ⟨b, 4 + k, none⟩ = some (.string (c.nx k)) := by
  rcases (show k = 0 ∨ k = 1 by omega) with rfl | rfl
  · exact h.cell 4 _ rfl
  · exact h.cell 5 _ rfl
theorem setP_cs (c : Kx) (a : ByteArray) {k : Nat} (hk : k < 4) : c.cells.setIfInBounds k (.string a) = (c.setP k a).cells := by
  rcases (show k = 0 ∨ k = 1 ∨ k = 2 ∨ k = 3 by omega) with rfl | rfl | rfl | rfl <;> rfl
theorem setN_cs (c : Kx) (a : ByteArray) {k : Nat} (hk : k < 2) : c.cells.setIfInBounds (4 + k) (.string a) = (c.setN k a).cells := by
  rcases (show k = 0 ∨ k = 1 by omega) with rfl | rfl <;> rfl
theorem index4 (b k : Nat) (hk : k < 4) (W : World) : (Instr.indexAt 41 (.pointer (some ⟨b, 0, none⟩)) (.int .i64 (k : Int))).run Tryz.prog W = .ok (.pointer (some ⟨b, k, none⟩)) W := by
  rcases (show k = 0 ∨ k = 1 ∨ k = 2 ∨ k = 3 by omega) with rfl | rfl | rfl | rfl <;> kernel_rfl
theorem index2 (b k : Nat) (hk : k < 2) (W : World) : (Instr.indexAt 42 (.pointer (some ⟨b, 4, none⟩)) (.int .i64 (k : Int))).run Tryz.prog W = .ok (.pointer (some ⟨b, 4 + k, none⟩)) W := by
  rcases (show k = 0 ∨ k = 1 by omega) with rfl | rfl <;> kernel_rfl
theorem ex_index {P : Program} {o : Oper} {ρ : Operand → Value} {T : TypeId} {x y : Operand} {vx vy r : Value} {w : World} (ho : o.op = .indexAddr T x y) (hx : ρ x = vx) (hy : ρ y = vy) (h : (Instr.indexAt T vx vy).run P w = .ok r w) :
    (execOp ρ o).run P w = .ok (.value r) w := by
  unfold execOp
  simp only [ho, hx, hy, Sem.run_bind, h, Result.andThen_ok, Sem.run_pure]
theorem results_mid {P : Program} {fn : Func} {o p q : Nat} {ty : TypeId} (h : fn.results = #[.tmp o, .cell p ty, .tmp q]) (tmps : Array Value) (w : World) (g : Nat) (u : Value)
    (y : Value) (hy : tmps.getD o undef = y) (hp : tmps.getD p undef = .pointer (some ⟨g, 0, none⟩)) (hl : (loadVar ty ⟨g, 0, none⟩).run P w = .ok u w) (v : Value) (hv : tmps.getD q undef = v) :
    (results fn tmps).run P w = .ok (.tuple #[y, u, v]) w := by
  have hy' : tmps[o]?.getD undef = y := by simpa using hy
  have hp' : tmps[p]?.getD undef = .pointer (some ⟨g, 0, none⟩) := by simpa using hp
  have hv' : tmps[q]?.getD undef = v := by simpa using hv
  simp [results, h, hy', hp', hv', asAddr, hl]
theorem str_beq (a b : ByteArray) : (a.toList == b.toList) = decide (a = b) := by
  rw [Bool.eq_iff_iff, beq_iff_eq, decide_eq_true_eq, ByteArray.toList_eq, ByteArray.toList_eq]
  exact ⟨fun h => ByteArray.ext (Array.toList_inj.1 h), fun h => by rw [h]⟩
/-- What the boxes of what is known and of the message hold. -/
structure Us (w : World) (c : Kx) (m : M) (W : World) : Prop where
  s0 : Bk 44 W w.heap.size c.cells
  m0 : Bx W (w.heap.size + 1) m
  i0 : m.In w
  bel : Below w.heap.size w W
theorem Us.i {w W : World} {c : Kx} {m : M} (h : Us w c m W) : m.In W := h.i0.below h.bel
theorem Us.start (w : World) (c : Kx) (m : M) (hm : m.In w) : Us w c m ((w.alloc (.cells c.cells 44)).alloc (.cells m.cells 38)) := by
  refine ⟨(Bk.Bk.new 44 w c.cells).old _, ?_, hm, balloc (balloc (Below.refl _ w) _) _⟩
  have := Bx.new (w.alloc (.cells c.cells 44)) m
  rw [alloc_size] at this
  exact this
theorem Us.call {w V W : World} {c : Kx} {m : M} (h : Us w c m V) (hb : Below V.heap.size V W) : Us w c m W := ⟨h.s0.below hb, h.m0.below hb, h.i0, bcall h.bel hb⟩
theorem Us.drew {w V : World} {c : Kx} {m : M} (h : Us w c m V) : Us w c m V.drew := h.call (Below.refl _ V).drew
/-- One cell of what is known is set. -/
theorem Us.set {w V : World} {c c' : Kx} {m : M} {k : Nat} {v : Value} (h : Us w c m V) (hc : c.cells.setIfInBounds k v = c'.cells) : Us w c' m (V.setCell ⟨w.heap.size, k, none⟩ v) :=
  ⟨h.s0.set hc, h.m0.off (by show w.heap.size + 1 ≠ w.heap.size; omega) v, h.i0, h.bel.setCell (p := ⟨w.heap.size, k, none⟩) (Nat.le_refl _) v⟩
/-- A struct's box behind is stored into. -/
theorem Us.row {w V : World} {c : Kx} {m : M} {g : Nat} (h : Us w c m V) (hg : w.heap.size + 1 < g) (cs : Array Value) : Us w c m (V.setRow g cs) :=
  ⟨h.s0.row (by omega) cs, h.m0.row (by omega) cs, h.i0, Box.below_setRow h.bel (by omega) cs⟩
theorem Us.under {w V W : World} {c : Kx} {m : M} {B : Nat} (h : Us w c m V) (hb : Below B V W) (hB : w.heap.size + 1 < B) : Us w c m W :=
  ⟨h.s0.under hb (by omega), (hb.block _ hB).trans h.m0, h.i0, h.bel.trans (hb.mono (by omega))⟩
/-- The result's box. -/
theorem res_new (w : World) (c : Kx) (m : M) : Bk 44 (((w.alloc (.cells c.cells 44)).alloc (.cells m.cells 38)).alloc (.cells Kx.zero.cells 44)) (w.heap.size + 1 + 1) Kx.zero.cells := by
  have := Bk.Bk.new 44 ((w.alloc (.cells c.cells 44)).alloc (.cells m.cells 38)) Kx.zero.cells
  rw [alloc_size, alloc_size] at this
  exact this
/-- The texts of TLVs. -/
def elB (l : List F1.El) : List ByteArray := l.map fun x => ⟨(F1.enc1 x).toArray⟩
theorem elB_app (a b : List F1.El) : elB (a ++ b) = elB a ++ elB b := by simp [elB]
theorem elB_len (l : List F1.El) : (elB l).length = l.length := by simp [elB]
theorem elB_flat (l : List F1.El) : Js.flat (elB l) = F1.encT l := by
  unfold Js.flat elB F1.encT
  rw [List.flatMap_map]
/-- An answer of texts, what is known behind them, an error. -/
def AnsW (p : List ByteArray × Kx × Int) (w : World) (e : Ending) (w' : World) : Prop :=
  ∃ a k, e = .returned (.tuple #[.slice a p.1.length k, .agg p.2.1.cells, .int .i64 p.2.2]) ∧ Js.Lst w.heap.size w' (.slice a p.1.length k) p.1 ∧ Below w.heap.size w w'
theorem AnsW.no {c : Kx} {d : Int} {p : List ByteArray × Kx × Int} {w w' : World} (h : p = ([], c, d)) (hb : Below w.heap.size w w') : AnsW p w (.returned (.tuple #[.slice none 0 0, .agg c.cells, .int .i64 d])) w' := by
  subst h
  exact ⟨none, 0, rfl, Js.Lst.nil _ _, hb⟩
end Go.Proofs.YtjhfpobjbijcpaaGreatDoor.Cx
namespace Go.Proofs.YtjhfpobjbijcpaaGreatDoor.S2
open Go.ChangeShapes Go.WideShapes Go.ChangeAt Go.RowKit
open Go.Proofs.YtjhfpobjbijcpaaGreatDoor.Ms
open Go.Proofs.YtjhfpobjbijcpaaGreatDoor.Cnt
open Go.Proofs.YtjhfpobjbijcpaaGreatDoor.S1
set_option linter.unusedVariables false
set_option maxRecDepth 100000
set_option maxRecDepth 100000

set_option maxHeartbeats 1600000 in
theorem right_any (a : Option Addr) (c : Nat) (l : List El) (w : World) (hl : SRow w a l) (ln : l.length ≤ 1048576) (lb : ∀ x ∈ l, x.1.size ≤ 1099511627776) :
    Calls Tryz.prog 96 #[.slice a l.length c] w fun e w' => e = .returned (.bool (okS l)) ∧ Below w.heap.size w w' := by
  have P := Lib.hid (may_any a c l 2 127 w hl ln lb)
  clear lb
  cases hm : mayB l 2 127
  · have HK : Hid (okS l = false) := Lib.hid (by unfold okS; rw [hm]; rfl)
    rw [hm] at P
    clear hm hl ln
    go_enter Tryz.func96, Tryz.ntmps96
    go_wp2_with fail
    refine P.out.mono ?_
    rintro e w1 ⟨rfl, hb⟩
    go_wp2
    go_ret
    exact ⟨bool_eq HK.out.symm, hb⟩
  · have HB := bytesN_most hm
    have PB := Lib.hid (fun W (hb : Below w.heap.size w W) => bytes_any a c l W (hl.below hb) ln (by omega))
    have hb1 : ((bytesN l : Nat) : Int) ≤ 269484032 := by omega
    have hb0 : 0 ≤ ((bytesN l : Nat) : Int) := Int.natCast_nonneg _
    have HK : Hid (okS l = decide (((bytesN l : Nat) : Int) ≤ 200)) := Lib.hid (by unfold okS; rw [hm, Bool.true_and]; simp; omega)
    rw [hm] at P
    clear hm hl ln HB
    generalize ((bytesN l : Nat) : Int) = n at *
    go_enter Tryz.func96, Tryz.ntmps96
    go_wp2_with fail
    refine P.out.mono ?_
    rintro e w1 ⟨rfl, hb⟩
    have HB := Lib.hid hb
    clear hb P
    go_wp2_with fail
    refine (PB.out _ HB.out).mono ?_
    rintro e w2 ⟨rfl, hb⟩
    have HB := Lib.hid (bcall HB.out hb)
    clear hb PB
    go_wp2
    go_ret
    exact ⟨bool_eq HK.out.symm, HB.out⟩
end Go.Proofs.YtjhfpobjbijcpaaGreatDoor.S2
namespace Go.Proofs.YtjhfpobjbijcpaaGreatDoor.Own
open Go.ChangeShapes Go.WideShapes Go.ChangeAt Go.RowKit
open Go.Proofs.YtjhfpobjbijcpaaGreatDoor.Ms
open Go.Proofs.YtjhfpobjbijcpaaGreatDoor.Box
open Go.Proofs.YtjhfpobjbijcpaaGreatDoor.Same
open Go.Proofs.YtjhfpobjbijcpaaGreatDoor.Or
set_option linter.unusedVariables false
set_option maxRecDepth 100000

set_option maxHeartbeats 6400000 in
set_option maxRecDepth 100000 in
theorem own_1 (m : M) (w : World) (hk : m.kind = 1) : OwnS m w (k1 m) := by refine' oB
set_option maxHeartbeats 6400000 in
set_option maxRecDepth 100000 in
theorem own_2 (m : M) (w : World) (hk : m.kind = 2) : OwnS m w (k2 m) := by refine' oB
set_option maxHeartbeats 6400000 in
set_option maxRecDepth 100000 in
theorem own_3 (m : M) (w : World) (hk : m.kind = 3) : OwnS m w (k3 m) := by refine' oB
set_option maxHeartbeats 6400000 in
set_option maxRecDepth 100000 in
theorem own_4 (m : M) (w : World) (hk : m.kind = 4) : OwnS m w (k4 m) := by refine' oB
end Go.Proofs.YtjhfpobjbijcpaaGreatDoor.Own
namespace Go.Proofs.YtjhfpobjbijcpaaGreatDoor.Own
open Go.ChangeShapes Go.WideShapes Go.ChangeAt Go.RowKit
open Go.Proofs.YtjhfpobjbijcpaaGreatDoor.Ms
open Go.Proofs.YtjhfpobjbijcpaaGreatDoor.Box
open Go.Proofs.YtjhfpobjbijcpaaGreatDoor.Same
open Go.Proofs.YtjhfpobjbijcpaaGreatDoor.Or
set_option linter.unusedVariables false
set_option maxRecDepth 100000

set_option maxHeartbeats 6400000 in
set_option maxRecDepth 100000 in
theorem own_5 (m : M) (w : World) (hk : m.kind = 5) : OwnS m w (k5 m) := by refine' oB
set_option maxHeartbeats 6400000 in
set_option maxRecDepth 100000 in
theorem own_6 (m : M) (w : World) (hk : m.kind = 6) : OwnS m w (k6 m) := by refine' oB
set_option maxHeartbeats 6400000 in
set_option maxRecDepth 100000 in
theorem own_7 (m : M) (w : World) (hk : m.kind = 7) : OwnS m w (k7 m) := by refine' oB
set_option maxHeartbeats 6400000 in
set_option maxRecDepth 100000 in
theorem own_8 (m : M) (w : World) (hk : m.kind = 8) : OwnS m w (k8 m) := by refine' oB
set_option maxHeartbeats 6400000 in
set_option maxRecDepth 100000 in
theorem own_9 (m : M) (w : World) (hk : m.kind = 9) : OwnS m w (k9 m) := by refine' oB
end Go.Proofs.YtjhfpobjbijcpaaGreatDoor.Own
namespace Go.Proofs.YtjhfpobjbijcpaaGreatDoor.Own
open Go.ChangeShapes Go.WideShapes Go.ChangeAt Go.RowKit
open Go.Proofs.YtjhfpobjbijcpaaGreatDoor.Ms
open Go.Proofs.YtjhfpobjbijcpaaGreatDoor.Box
open Go.Proofs.YtjhfpobjbijcpaaGreatDoor.Same
open Go.Proofs.YtjhfpobjbijcpaaGreatDoor.Or
set_option linter.unusedVariables false
set_option maxRecDepth 100000

set_option maxHeartbeats 6400000 in
set_option maxRecDepth 100000 in
theorem own_10 (m : M) (w : World) (hk : m.kind = 10) : OwnS m w (k10 m) := by refine' oB
set_option maxHeartbeats 6400000 in
set_option maxRecDepth 100000 in
theorem own_11 (m : M) (w : World) (hk : m.kind = 11) : OwnS m w (k11 m) := by refine' oB
set_option maxHeartbeats 6400000 in
set_option maxRecDepth 100000 in
theorem own_12 (m : M) (w : World) (hk : m.kind = 12) : OwnS m w (k12 m) := by refine' oB
end Go.Proofs.YtjhfpobjbijcpaaGreatDoor.Own
namespace Go.Proofs.YtjhfpobjbijcpaaGreatDoor.Own
open Go.ChangeShapes Go.WideShapes Go.ChangeAt Go.RowKit
open Go.Proofs.YtjhfpobjbijcpaaGreatDoor.Ms
open Go.Proofs.YtjhfpobjbijcpaaGreatDoor.Box
open Go.Proofs.YtjhfpobjbijcpaaGreatDoor.Same
open Go.Proofs.YtjhfpobjbijcpaaGreatDoor.Or
set_option linter.unusedVariables false
set_option maxRecDepth 100000

set_option maxHeartbeats 6400000 in
set_option maxRecDepth 100000 in
theorem own_13 (m : M) (w : World) (hk : m.kind = 13) : OwnS m w (k13 m) := by refine' oB
set_option maxHeartbeats 6400000 in
set_option maxRecDepth 100000 in
theorem own_14 (m : M) (w : World) (hk : m.kind = 14) : OwnS m w (k14 m) := by refine' oB
set_option maxHeartbeats 6400000 in
set_option maxRecDepth 100000 in
theorem own_low (m : M) (w : World) (hk : m.kind < 1) :
    Calls Tryz.prog 103 #[.agg m.cells] w fun e w' => e = .returned (.tuple #[.agg M.zero.cells, .bool false]) ∧ Below w.heap.size w w' := by
  obtain ⟨b1, b2, b3, bel⟩ := start3 w m
  go_enter Tryz.func103, Tryz.ntmps103
  go_upto_region 2 with fail
  change Code.wp _ _ _ _ (((w.alloc (.cells m.cells 38)).alloc (.cells M.zero.cells 38)).alloc (.cells M.zero.cells 38))
  generalize ((w.alloc (.cells m.cells 38)).alloc (.cells M.zero.cells 38)).alloc (.cells M.zero.cells 38) = V at *
  have c0 := b1.cs.c0
  have B2 := Lib.hid b2
  clear b1 b2 b3
  go_wp2_with (first | (refine wpList_built rfl 38 _ rfl M.zero.cells (by kernel_rfl) ?_) | (refine wpList_storeM (b := w.heap.size + 1) (m' := M.zero) rfl _ _ rfl rfl rfl B2.out ?_))
  exact bodyPost_ret (v := .tuple #[.agg M.zero.cells, .bool false]) (results_pair (p := 2) (q := 3) (ty := 38) rfl _ _ (w.heap.size + 1) _ rfl (loadVarM (B2.out.put (m' := M.zero))) (.bool false) rfl) rfl ⟨rfl, below_setRow bel (by omega) _⟩

set_option maxHeartbeats 6400000 in
set_option maxRecDepth 100000 in
theorem own_high (m : M) (w : World) (hk : 14 < m.kind) :
    Calls Tryz.prog 103 #[.agg m.cells] w fun e w' => e = .returned (.tuple #[.agg M.zero.cells, .bool false]) ∧ Below w.heap.size w w' := by
  obtain ⟨b1, b2, b3, bel⟩ := start3 w m
  go_enter Tryz.func103, Tryz.ntmps103
  go_upto_region 2 with fail
  change Code.wp _ _ _ _ (((w.alloc (.cells m.cells 38)).alloc (.cells M.zero.cells 38)).alloc (.cells M.zero.cells 38))
  generalize ((w.alloc (.cells m.cells 38)).alloc (.cells M.zero.cells 38)).alloc (.cells M.zero.cells 38) = V at *
  have c0 := b1.cs.c0
  have B2 := Lib.hid b2
  clear b1 b2 b3
  go_wp2_with (first | (refine wpList_built rfl 38 _ rfl M.zero.cells (by kernel_rfl) ?_) | (refine wpList_storeM (b := w.heap.size + 1) (m' := M.zero) rfl _ _ rfl rfl rfl B2.out ?_))
  exact bodyPost_ret (v := .tuple #[.agg M.zero.cells, .bool false]) (results_pair (p := 2) (q := 3) (ty := 38) rfl _ _ (w.heap.size + 1) _ rfl (loadVarM (B2.out.put (m' := M.zero))) (.bool false) rfl) rfl ⟨rfl, below_setRow bel (by omega) _⟩

end Go.Proofs.YtjhfpobjbijcpaaGreatDoor.Own
namespace Go.Proofs.YtjhfpobjbijcpaaGreatDoor.Bare
open Go.ChangeShapes Go.WideShapes Go.ChangeAt Go.RowKit
open Go.Proofs.YtjhfpobjbijcpaaGreatDoor.Ms
open Go.Proofs.YtjhfpobjbijcpaaGreatDoor.Box
open Go.Proofs.YtjhfpobjbijcpaaGreatDoor.Same
open Go.Proofs.YtjhfpobjbijcpaaGreatDoor.SameP
open Go.Proofs.YtjhfpobjbijcpaaGreatDoor.Hs
open Go.Proofs.YtjhfpobjbijcpaaGreatDoor.RSame
open Go.Proofs.YtjhfpobjbijcpaaGreatDoor.Own
open Go.Proofs.YtjhfpobjbijcpaaGreatDoor.Or
set_option linter.unusedVariables false
set_option maxRecDepth 100000

theorem is_1 {m : M} (h : m.kind = 1) : isKind m = true ∧ ownM m = { k1 m with kind := m.kind } := by
  have hi : isKind m = true := by simp [isKind, h]
  exact ⟨hi, by simp [ownM, hi, fieldsOf, h]⟩
theorem is_2 {m : M} (h : m.kind = 2) : isKind m = true ∧ ownM m = { k2 m with kind := m.kind } := by
  have hi : isKind m = true := by simp [isKind, h]
  exact ⟨hi, by simp [ownM, hi, fieldsOf, h]⟩
theorem is_3 {m : M} (h : m.kind = 3) : isKind m = true ∧ ownM m = { k3 m with kind := m.kind } := by
  have hi : isKind m = true := by simp [isKind, h]
  exact ⟨hi, by simp [ownM, hi, fieldsOf, h]⟩
theorem is_4 {m : M} (h : m.kind = 4) : isKind m = true ∧ ownM m = { k4 m with kind := m.kind } := by
  have hi : isKind m = true := by simp [isKind, h]
  exact ⟨hi, by simp [ownM, hi, fieldsOf, h]⟩
theorem is_5 {m : M} (h : m.kind = 5) : isKind m = true ∧ ownM m = { k5 m with kind := m.kind } := by
  have hi : isKind m = true := by simp [isKind, h]
  exact ⟨hi, by simp [ownM, hi, fieldsOf, h]⟩
theorem is_6 {m : M} (h : m.kind = 6) : isKind m = true ∧ ownM m = { k6 m with kind := m.kind } := by
  have hi : isKind m = true := by simp [isKind, h]
  exact ⟨hi, by simp [ownM, hi, fieldsOf, h]⟩
theorem is_7 {m : M} (h : m.kind = 7) : isKind m = true ∧ ownM m = { k7 m with kind := m.kind } := by
  have hi : isKind m = true := by simp [isKind, h]
  exact ⟨hi, by simp [ownM, hi, fieldsOf, h]⟩
theorem is_8 {m : M} (h : m.kind = 8) : isKind m = true ∧ ownM m = { k8 m with kind := m.kind } := by
  have hi : isKind m = true := by simp [isKind, h]
  exact ⟨hi, by simp [ownM, hi, fieldsOf, h]⟩
theorem is_9 {m : M} (h : m.kind = 9) : isKind m = true ∧ ownM m = { k9 m with kind := m.kind } := by
  have hi : isKind m = true := by simp [isKind, h]
  exact ⟨hi, by simp [ownM, hi, fieldsOf, h]⟩
theorem is_10 {m : M} (h : m.kind = 10) : isKind m = true ∧ ownM m = { k10 m with kind := m.kind } := by
  have hi : isKind m = true := by simp [isKind, h]
  exact ⟨hi, by simp [ownM, hi, fieldsOf, h]⟩
theorem is_11 {m : M} (h : m.kind = 11) : isKind m = true ∧ ownM m = { k11 m with kind := m.kind } := by
  have hi : isKind m = true := by simp [isKind, h]
  exact ⟨hi, by simp [ownM, hi, fieldsOf, h]⟩
theorem is_12 {m : M} (h : m.kind = 12) : isKind m = true ∧ ownM m = { k12 m with kind := m.kind } := by
  have hi : isKind m = true := by simp [isKind, h]
  exact ⟨hi, by simp [ownM, hi, fieldsOf, h]⟩
theorem is_13 {m : M} (h : m.kind = 13) : isKind m = true ∧ ownM m = { k13 m with kind := m.kind } := by
  have hi : isKind m = true := by simp [isKind, h]
  exact ⟨hi, by simp [ownM, hi, fieldsOf, h]⟩
theorem is_14 {m : M} (h : m.kind = 14) : isKind m = true ∧ ownM m = { k14 m with kind := m.kind } := by
  have hi : isKind m = true := by simp [isKind, h]
  exact ⟨hi, by simp [ownM, hi, fieldsOf, h]⟩
theorem is_low {m : M} (h : m.kind < 1) : isKind m = false := by unfold isKind; exact decide_eq_false (by omega)
theorem is_high {m : M} (h : 14 < m.kind) : isKind m = false := by unfold isKind; exact decide_eq_false (by omega)
theorem is_not {m : M} (h : isKind m = false) : ownM m = M.zero := by simp [ownM, h]
theorem own_in {m : M} {w : World} (hm : m.In w) : (ownM m).In w := by
  rcases (show m.kind < 1 ∨ m.kind = 1 ∨ m.kind = 2 ∨ m.kind = 3 ∨ m.kind = 4 ∨ m.kind = 5 ∨ m.kind = 6 ∨ m.kind = 7 ∨ m.kind = 8 ∨ m.kind = 9 ∨ m.kind = 10 ∨ m.kind = 11 ∨ m.kind = 12 ∨ m.kind = 13 ∨ m.kind = 14 ∨ 14 < m.kind by omega) with h | h | h | h | h | h | h | h | h | h | h | h | h | h | h | h
  · rw [is_not (is_low h)]; exact ⟨DRow.nil _ _, SRow.nil _ _, Nat.zero_le _, Nat.zero_le _⟩
  · rw [(is_1 h).2]; exact ⟨DRow.nil _ _, SRow.nil _ _, Nat.zero_le _, Nat.zero_le _⟩
  · rw [(is_2 h).2]; exact ⟨DRow.nil _ _, SRow.nil _ _, Nat.zero_le _, Nat.zero_le _⟩
  · rw [(is_3 h).2]; exact ⟨DRow.nil _ _, hm.s, Nat.zero_le _, hm.sl⟩
  · rw [(is_4 h).2]; exact ⟨DRow.nil _ _, hm.s, Nat.zero_le _, hm.sl⟩
  · rw [(is_5 h).2]; exact ⟨hm.d, hm.s, hm.dl, hm.sl⟩
  · rw [(is_6 h).2]; exact ⟨DRow.nil _ _, hm.s, Nat.zero_le _, hm.sl⟩
  · rw [(is_7 h).2]; exact ⟨DRow.nil _ _, hm.s, Nat.zero_le _, hm.sl⟩
  · rw [(is_8 h).2]; exact ⟨DRow.nil _ _, hm.s, Nat.zero_le _, hm.sl⟩
  · rw [(is_9 h).2]; exact ⟨DRow.nil _ _, hm.s, Nat.zero_le _, hm.sl⟩
  · rw [(is_10 h).2]; exact ⟨DRow.nil _ _, hm.s, Nat.zero_le _, hm.sl⟩
  · rw [(is_11 h).2]; exact ⟨DRow.nil _ _, hm.s, Nat.zero_le _, hm.sl⟩
  · rw [(is_12 h).2]; exact ⟨DRow.nil _ _, hm.s, Nat.zero_le _, hm.sl⟩
  · rw [(is_13 h).2]; exact ⟨DRow.nil _ _, hm.s, Nat.zero_le _, hm.sl⟩
  · rw [(is_14 h).2]; exact ⟨DRow.nil _ _, SRow.nil _ _, Nat.zero_le _, Nat.zero_le _⟩
  · rw [is_not (is_high h)]; exact ⟨DRow.nil _ _, SRow.nil _ _, Nat.zero_le _, Nat.zero_le _⟩

theorem own_any (m : M) (w : World) : Calls Tryz.prog 103 #[.agg m.cells] w fun e w' => e = .returned (.tuple #[.agg (ownM m).cells, .bool (isKind m)]) ∧ Below w.heap.size w w' := by
  rcases (show m.kind < 1 ∨ m.kind = 1 ∨ m.kind = 2 ∨ m.kind = 3 ∨ m.kind = 4 ∨ m.kind = 5 ∨ m.kind = 6 ∨ m.kind = 7 ∨ m.kind = 8 ∨ m.kind = 9 ∨ m.kind = 10 ∨ m.kind = 11 ∨ m.kind = 12 ∨ m.kind = 13 ∨ m.kind = 14 ∨ 14 < m.kind by omega) with h | h | h | h | h | h | h | h | h | h | h | h | h | h | h | h
  · rw [is_not (is_low h), is_low h]; exact own_low m w h
  · rw [(is_1 h).1, (is_1 h).2]; exact own_1 m w h _ rfl
  · rw [(is_2 h).1, (is_2 h).2]; exact own_2 m w h _ rfl
  · rw [(is_3 h).1, (is_3 h).2]; exact own_3 m w h _ rfl
  · rw [(is_4 h).1, (is_4 h).2]; exact own_4 m w h _ rfl
  · rw [(is_5 h).1, (is_5 h).2]; exact own_5 m w h _ rfl
  · rw [(is_6 h).1, (is_6 h).2]; exact own_6 m w h _ rfl
  · rw [(is_7 h).1, (is_7 h).2]; exact own_7 m w h _ rfl
  · rw [(is_8 h).1, (is_8 h).2]; exact own_8 m w h _ rfl
  · rw [(is_9 h).1, (is_9 h).2]; exact own_9 m w h _ rfl
  · rw [(is_10 h).1, (is_10 h).2]; exact own_10 m w h _ rfl
  · rw [(is_11 h).1, (is_11 h).2]; exact own_11 m w h _ rfl
  · rw [(is_12 h).1, (is_12 h).2]; exact own_12 m w h _ rfl
  · rw [(is_13 h).1, (is_13 h).2]; exact own_13 m w h _ rfl
  · rw [(is_14 h).1, (is_14 h).2]; exact own_14 m w h _ rfl
  · rw [is_not (is_high h), is_high h]; exact own_high m w h

/-- Is it bare? -/
def bareN (m : M) : Bool := isKind m && M.same m (ownM m)
set_option maxHeartbeats 1600000 in
set_option maxRecDepth 100000 in
theorem bare_any (m : M) (w : World) (hm : m.In w) :
    Calls Tryz.prog 75 #[.agg m.cells] w fun e w' => e = .returned (.bool (bareN m)) ∧ Below w.heap.size w w' := by
  have HB := Lib.hid (show bareN m = (isKind m && M.same m (ownM m)) from rfl)
  have P := Lib.hid (fun w => own_any m w)
  have PS := Lib.hid (fun w (hm : m.In w) => same_any m (ownM m) w hm (own_in hm))
  generalize ownM m = o at *
  have hb := Lib.hid (Bx.new w m)
  have bel := balloc (Below.refl _ w) (.cells m.cells 38)
  have hm1 := hm.below bel
  clear hm
  cases hk : isKind m
  all_goals
    rw [hk] at P HB
    have HK := Lib.hid hk
    clear hk
    go_enter Tryz.func75, Tryz.ntmps75
    go_upto_region 1 with fail
    generalize w.alloc (.cells m.cells 38) = V at *
    go_wp2_with (first | (refine wpList_loadM (b := w.heap.size) (m := m) rfl _ rfl rfl hb.out ?_))
    refine (P.out _).mono ?_
    rintro e V ⟨rfl, hb1⟩
    have bel := bcall bel hb1
    have hb := Lib.hid (hb.out.below hb1)
    have hm1 := hm1.below hb1
    clear hb1 P
    go_upto_region 2 with (first | (refine wpList_storeM (m := M.zero) (m' := o) rfl _ _ rfl rfl rfl (heap_alloc_new _ _) ?_))
    change Code.wp _ _ _ _ ((V.alloc (.cells M.zero.cells 38)).setRow V.heap.size o.cells)
    rw [World.setRow_alloc_new]
    have B1 := Lib.hid (hb.out.old (.cells o.cells 38))
    have B2 := Lib.hid (Bx.new V o)
    have HB2 := Lib.hid (balloc bel (.cells o.cells 38))
    have HM := Lib.hid (hm1.below (balloc (Below.refl _ V) (.cells o.cells 38)))
    clear hb bel hm1
    generalize V.alloc (.cells o.cells 38) = V1 at *
  · go_wp2
    go_ret
    exact ⟨bool_eq (by rw [HB.out]; rfl), HB2.out⟩
  · go_wp2_with (first | (refine st_yes (v := .agg (M.cells m)) (by rfl) rfl (run_loadM (x := .tmp 1) rfl rfl B1.out) ?_) | (refine st_yes (v := .agg (M.cells o)) (by rfl) rfl (run_loadM (x := .tmp 3) rfl rfl B2.out) ?_))
    refine (PS.out _ HM.out).mono ?_
    rintro e w3 ⟨rfl, hb3⟩
    have HB3 := Lib.hid (bcall HB2.out hb3)
    clear hb3
    go_wp2
    go_ret
    exact ⟨bool_eq (by rw [HB.out]; simp), HB3.out⟩

end Go.Proofs.YtjhfpobjbijcpaaGreatDoor.Bare
