/-
  What is known, in a block of its own, read and changed at an index; the boxes of a call with what is known and a message; texts that are equal. No conditions.
  Whether Subs may be: the program's Right and the document's; whether they are few, and the same, as the statements ask. Condition: lists of at most 2^20 elements.
  A message with the fields of its kind alone: the program's answer, kinds 1 to 4.
  A message with the fields of its kind alone: the program's answer, kinds 5 to 9.
  A message with the fields of its kind alone: the program's answer, kinds 10 to 12.
  A message with the fields of its kind alone: the program's answer, kinds 13 to 14, and none.
  Whether a message is bare: the document's answer, kinds one. Condition: lists of at most 2^20 elements.
-/
import Derived.Test.YtjhfpobjbijcpaaGreatDoorE05
import Derived.Test.YtjhfpobjbijcpaaGreatDoorE06
import Derived.Test.YtjhfpobjbijcpaaGreatDoorE07
import Derived.Test.YtjhfpobjbijcpaaGreatDoorE12
import Derived.Test.YtjhfpobjbijcpaaGreatDoorE13
import Derived.Test.YtjhfpobjbijcpaaGreatDoorE15
import Derived.Test.YtjhfpobjbijcpaaGreatDoorE16
namespace Go.Proofs.YtjhfpobjbijcpaaGreatDoor.Cx
open Go.ChangeShapes Go.WideShapes Go.ChangeAt Go.RowKit
open Go.Proofs.YtjhfpobjbijcpaaGreatDoor.Ms
open Go.Proofs.YtjhfpobjbijcpaaGreatDoor.Box
open Go.Proofs.YtjhfpobjbijcpaaGreatDoor.An
open Go.Proofs.YtjhfpobjbijcpaaGreatDoor.K1
open Go.Proofs.YtjhfpobjbijcpaaGreatDoor.Kb
open Go.Proofs.YtjhfpobjbijcpaaGreatDoor.Bk (Bk alloc_size)
set_option linter.unusedVariables false
set_option maxRecDepth 100000
set_option maxRecDepth 100000
theorem infoX : (Tryz.prog.info? 44).map (·.size) = some 7 := by kernel_rfl
theorem pf_at {W : World} {b : Nat} {c : Kx} (h : Bk 44 W b c.cells) {k : Nat} (hk : k < 4) : W.cell? ⟨b, k, none⟩ = some (.string (c.pf k)) := by
  rcases (show k = 0 ∨ k = 1 ∨ k = 2 ∨ k = 3 by omega) with rfl | rfl | rfl | rfl
  · exact h.cell 0 _ rfl
  · exact h.cell 1 _ rfl
  · exact h.cell 2 _ rfl
  · exact h.cell 3 _ rfl
theorem nx_at {W : World} {b : Nat} {c : Kx} (h : Bk 44 W b c.cells) {k : Nat} (hk : k < 2) : W.cell? ⟨b, 4 + k, none⟩ = some (.string (c.nx k)) := by
  rcases (show k = 0 ∨ k = 1 by omega) with rfl | rfl
  · exact h.cell 4 _ rfl
  · exact h.cell 5 _ rfl
theorem setP_cs (c : Kx) (a : ByteArray) {k : Nat} (hk : k < 4) : c.cells.setIfInBounds k (.string a) = (c.setP k a).cells := by
  rcases (show k = 0 ∨ k = 1 ∨ k = 2 ∨ k = 3 by omega) with rfl | rfl | rfl | rfl <;> rfl
theorem setN_cs (c : Kx) (a : ByteArray) {k : Nat} (hk : k < 2) : c.cells.setIfInBounds (4 + k) (.string a) = (c.setN k a).cells := by
  rcases (show k = 0 ∨ k = 1 by omega) with rfl | rfl <;> rfl
theorem index4 (b k : Nat) (hk : k < 4) (W : World) : (Instr.indexAt 41 (.pointer (some ⟨b, 0, none⟩)) (.int .i64 (k : Int))).run Tryz.prog W = .ok (.pointer (some ⟨b, k, none⟩)) W := by
  rcases (show k = 0 ∨ k = 1 ∨ k = 2 ∨ k = 3 by omega) with rfl | rfl | rfl | rfl <;> kernel_rfl
theorem index2 (b k : Nat) (hk : k < 2) (W : World) : (Instr.indexAt 42 (.pointer (some ⟨b, 4, none⟩)) (.int .i64 (k : Int))).run Tryz.prog W = .ok (.pointer (some ⟨b, 4 + k, none⟩)) W := by
  rcases (show k = 0 ∨ k = 1 by omega) with rfl | rfl <;> kernel_rfl
theorem ex_index {P : Program} {o : Oper} {ρ : Operand → Value} {T : TypeId} {x y : Operand} {vx vy r : Value} {w : World} (ho : o.op = .indexAddr T x y) (hx : ρ x = vx) (hy : ρ y = vy) (h : (Instr.indexAt T vx vy).run P w = .ok r w) :
    (execOp ρ o).run P w = .ok (.value r) w := by
  unfold execOp
  simp only [ho, hx, hy, Sem.run_bind, h, Result.andThen_ok, Sem.run_pure]
theorem results_mid {P : Program} {fn : Func} {o p q : Nat} {ty : TypeId} (h : fn.results = #[.tmp o, .cell p ty, .tmp q]) (tmps : Array Value) (w : World) (g : Nat) (u : Value)
    (y : Value) (hy : tmps.getD o undef = y) (hp : tmps.getD p undef = .pointer (some ⟨g, 0, none⟩)) (hl : (loadVar ty ⟨g, 0, none⟩).run P w = .ok u w) (v : Value) (hv : tmps.getD q undef = v) :
    (results fn tmps).run P w = .ok (.tuple #[y, u, v]) w := by
  have hy' : tmps[o]?.getD undef = y := by simpa using hy
  have hp' : tmps[p]?.getD undef = .pointer (some ⟨g, 0, none⟩) := by simpa using hp
  have hv' : tmps[q]?.getD undef = v := by simpa using hv
  simp [results, h, hy', hp', hv', asAddr, hl]
theorem str_beq (a b : ByteArray) : (a.toList == b.toList) = decide (a = b) := by
  rw [Bool.eq_iff_iff, beq_iff_eq, decide_eq_true_eq, ByteArray.toList_eq, ByteArray.toList_eq]
  exact ⟨fun h => ByteArray.ext (Array.toList_inj.1 h), fun h => by rw [h]⟩
/-- What the boxes of what is known and of the message hold. -/
structure Us (w : World) (c : Kx) (m : M) (W : World) : Prop where
  s0 : Bk 44 W w.heap.size c.cells
  m0 : Bx W (w.heap.size + 1) m
  i0 : m.In w
  bel : Below w.heap.size w W
theorem Us.i {w W : World} {c : Kx} {m : M} (h : Us w c m W) : m.In W := h.i0.below h.bel
theorem Us.start (w : World) (c : Kx) (m : M) (hm : m.In w) : Us w c m ((w.alloc (.cells c.cells 44)).alloc (.cells m.cells 38)) := by
  refine ⟨(Bk.Bk.new 44 w c.cells).old _, ?_, hm, balloc (balloc (Below.refl _ w) _) _⟩
  have := Bx.new (w.alloc (.cells c.cells 44)) m
  rw [alloc_size] at this
  exact this
theorem Us.call {w V W : World} {c : Kx} {m : M} (h : Us w c m V) (hb : Below V.heap.size V W) : Us w c m W := ⟨h.s0.below hb, h.m0.below hb, h.i0, bcall h.bel hb⟩
theorem Us.drew {w V : World} {c : Kx} {m : M} (h : Us w c m V) : Us w c m V.drew := h.call (Below.refl _ V).drew
/-- One cell of what is known is set. -/
theorem Us.set {w V : World} {c c' : Kx} {m : M} {k : Nat} {v : Value} (h : Us w c m V) (hc : c.cells.setIfInBounds k v = c'.cells) : Us w c' m (V.setCell ⟨w.heap.size, k, none⟩ v) :=
  ⟨h.s0.set hc, h.m0.off (by show w.heap.size + 1 ≠ w.heap.size; omega) v, h.i0, h.bel.setCell (p := ⟨w.heap.size, k, none⟩) (Nat.le_refl _) v⟩
/-- A struct's box behind is stored into. -/
theorem Us.row {w V : World} {c : Kx} {m : M} {g : Nat} (h : Us w c m V) (hg : w.heap.size + 1 < g) (cs : Array Value) : Us w c m (V.setRow g cs) :=
  ⟨h.s0.row (by omega) cs, h.m0.row (by omega) cs, h.i0, Box.below_setRow h.bel (by omega) cs⟩
theorem Us.under {w V W : World} {c : Kx} {m : M} {B : Nat} (h : Us w c m V) (hb : Below B V W) (hB : w.heap.size + 1 < B) : Us w c m W :=
  ⟨h.s0.under hb (by omega), (hb.block _ hB).trans h.m0, h.i0, h.bel.trans (hb.mono (by omega))⟩
/-- The result's box. -/
theorem res_new (w : World) (c : Kx) (m : M) : Bk 44 (((w.alloc (.cells c.cells 44)).alloc (.cells m.cells 38)).alloc (.cells Kx.zero.cells 44)) (w.heap.size + 1 + 1) Kx.zero.cells := by
  have := Bk.Bk.new 44 ((w.alloc (.cells c.cells 44)).alloc (.cells m.cells 38)) Kx.zero.cells
  rw [alloc_size, alloc_size] at this
  exact this
/-- The texts of TLVs. -/
def elB (l : List F1.El) : List ByteArray := l.map fun x => ⟨(F1.enc1 x).toArray⟩
theorem elB_app (a b : List F1.El) : elB (a ++ b) = elB a ++ elB b := by simp [elB]
theorem elB_len (l : List F1.El) : (elB l).length = l.length := by simp [elB]
theorem elB_flat (l : List F1.El) : Js.flat (elB l) = F1.encT l := by
  unfold Js.flat elB F1.encT
  rw [List.flatMap_map]
/-- An answer of texts, what is known behind them, an error. -/
def AnsW (p : List ByteArray × Kx × Int) (w : World) (e : Ending) (w' : World) : Prop :=
  ∃ a k, e = .returned (.tuple #[.slice a p.1.length k, .agg p.2.1.cells, .int .i64 p.2.2]) ∧ Js.Lst w.heap.size w' (.slice a p.1.length k) p.1 ∧ Below w.heap.size w w'
theorem AnsW.no {c : Kx} {d : Int} {p : List ByteArray × Kx × Int} {w w' : World} (h : p = ([], c, d)) (hb : Below w.heap.size w w') : AnsW p w (.returned (.tuple #[.slice none 0 0, .agg c.cells, .int .i64 d])) w' := by
  subst h
  exact ⟨none, 0, rfl, Js.Lst.nil _ _, hb⟩
end Go.Proofs.YtjhfpobjbijcpaaGreatDoor.Cx
namespace Go.Proofs.YtjhfpobjbijcpaaGreatDoor.S2
open Go.ChangeShapes Go.WideShapes Go.ChangeAt Go.RowKit
open Go.Proofs.YtjhfpobjbijcpaaGreatDoor.Ms
open Go.Proofs.YtjhfpobjbijcpaaGreatDoor.Cnt
open Go.Proofs.YtjhfpobjbijcpaaGreatDoor.S1
set_option linter.unusedVariables false
set_option maxRecDepth 100000
set_option maxRecDepth 100000

set_option maxHeartbeats 1600000 in
theorem right_any (a : Option Addr) (c : Nat) (l : List El) (w : World) (hl : SRow w a l) (ln : l.length ≤ 1048576) (lb : ∀ x ∈ l, x.1.size ≤ 1099511627776) :
    Calls Tryz.prog 96 #[.slice a l.length c] w fun e w' => e = .returned (.bool (okS l)) ∧ Below w.heap.size w w' := by
  have P := Lib.hid (may_any a c l 2 127 w hl ln lb)
  clear lb
  cases hm : mayB l 2 127
  · have HK : Hid (okS l = false) := Lib.hid (by unfold okS; rw [hm]; rfl)
    rw [hm] at P
    clear hm hl ln
    go_enter Tryz.func96, Tryz.ntmps96
    go_wp2_with fail
    refine P.out.mono ?_
    rintro e w1 ⟨rfl, hb⟩
    go_wp2
    go_ret
    exact ⟨bool_eq HK.out.symm, hb⟩
  · have HB := bytesN_most hm
    have PB := Lib.hid (fun W (hb : Below w.heap.size w W) => bytes_any a c l W (hl.below hb) ln (by omega))
    have hb1 : ((bytesN l : Nat) : Int) ≤ 269484032 := by omega
    have hb0 : 0 ≤ ((bytesN l : Nat) : Int) := Int.natCast_nonneg _
    have HK : Hid (okS l = decide (((bytesN l : Nat) : Int) ≤ 200)) := Lib.hid (by unfold okS; rw [hm, Bool.true_and]; simp; omega)
    rw [hm] at P
    clear hm hl ln HB
    generalize ((bytesN l : Nat) : Int) = n at *
    go_enter Tryz.func96, Tryz.ntmps96
    go_wp2_with fail
    refine P.out.mono ?_
    rintro e w1 ⟨rfl, hb⟩
    have HB := Lib.hid hb
    clear hb P
    go_wp2_with fail
    refine (PB.out _ HB.out).mono ?_
    rintro e w2 ⟨rfl, hb⟩
    have HB := Lib.hid (bcall HB.out hb)
    clear hb PB
    go_wp2
    go_ret
    exact ⟨bool_eq HK.out.symm, HB.out⟩
set_option maxHeartbeats 1600000 in
theorem rright_any (a : Option Addr) (c : Nat) (l : List El) (w : World) (hl : SRow w a l) (ln : l.length ≤ 1048576) (lb : ∀ x ∈ l, x.1.size ≤ 1099511627776) :
    Calls Tryz.prog 55 #[.slice a l.length c] w fun e w' => e = .returned (.bool (okS l)) ∧ Below w.heap.size w w' := by
  have P := Lib.hid (rmay_any a c l 2 127 w hl ln lb)
  clear lb
  cases hm : mayB l 2 127
  · have HK : Hid (okS l = false) := Lib.hid (by unfold okS; rw [hm]; rfl)
    rw [hm] at P
    clear hm hl ln
    go_enter Tryz.func55, Tryz.ntmps55
    go_wp2_with fail
    refine P.out.mono ?_
    rintro e w1 ⟨rfl, hb⟩
    go_wp2
    go_ret
    exact ⟨bool_eq HK.out.symm, hb⟩
  · have HB := bytesN_most hm
    have PB := Lib.hid (fun W (hb : Below w.heap.size w W) => rbytes_any a c l W (hl.below hb) ln (by omega))
    have hb1 : ((bytesN l : Nat) : Int) ≤ 269484032 := by omega
    have hb0 : 0 ≤ ((bytesN l : Nat) : Int) := Int.natCast_nonneg _
    have HK : Hid (okS l = decide (((bytesN l : Nat) : Int) ≤ 200)) := Lib.hid (by unfold okS; rw [hm, Bool.true_and]; simp; omega)
    rw [hm] at P
    clear hm hl ln HB
    generalize ((bytesN l : Nat) : Int) = n at *
    go_enter Tryz.func55, Tryz.ntmps55
    go_wp2_with fail
    refine P.out.mono ?_
    rintro e w1 ⟨rfl, hb⟩
    have HB := Lib.hid hb
    clear hb P
    go_wp2_with fail
    refine (PB.out _ HB.out).mono ?_
    rintro e w2 ⟨rfl, hb⟩
    have HB := Lib.hid (bcall HB.out hb)
    clear hb PB
    go_wp2
    go_ret
    exact ⟨bool_eq HK.out.symm, HB.out⟩
end Go.Proofs.YtjhfpobjbijcpaaGreatDoor.S2
namespace Go.Proofs.YtjhfpobjbijcpaaGreatDoor.Own
open Go.ChangeShapes Go.WideShapes Go.ChangeAt Go.RowKit
open Go.Proofs.YtjhfpobjbijcpaaGreatDoor.Ms
open Go.Proofs.YtjhfpobjbijcpaaGreatDoor.Box
open Go.Proofs.YtjhfpobjbijcpaaGreatDoor.Same
open Go.Proofs.YtjhfpobjbijcpaaGreatDoor.Or
set_option linter.unusedVariables false
set_option maxRecDepth 100000

set_option maxHeartbeats 6400000 in
set_option maxRecDepth 100000 in
theorem own_1 (m : M) (w : World) (hk : m.kind = 1) : OwnS m w (k1 m) := by refine' oB
set_option maxHeartbeats 6400000 in
set_option maxRecDepth 100000 in
theorem own_2 (m : M) (w : World) (hk : m.kind = 2) : OwnS m w (k2 m) := by refine' oB
set_option maxHeartbeats 6400000 in
set_option maxRecDepth 100000 in
theorem own_3 (m : M) (w : World) (hk : m.kind = 3) : OwnS m w (k3 m) := by refine' oB
set_option maxHeartbeats 6400000 in
set_option maxRecDepth 100000 in
theorem own_4 (m : M) (w : World) (hk : m.kind = 4) : OwnS m w (k4 m) := by refine' oB
end Go.Proofs.YtjhfpobjbijcpaaGreatDoor.Own
namespace Go.Proofs.YtjhfpobjbijcpaaGreatDoor.Own
open Go.ChangeShapes Go.WideShapes Go.ChangeAt Go.RowKit
open Go.Proofs.YtjhfpobjbijcpaaGreatDoor.Ms
open Go.Proofs.YtjhfpobjbijcpaaGreatDoor.Box
open Go.Proofs.YtjhfpobjbijcpaaGreatDoor.Same
open Go.Proofs.YtjhfpobjbijcpaaGreatDoor.Or
set_option linter.unusedVariables false
set_option maxRecDepth 100000

set_option maxHeartbeats 6400000 in
set_option maxRecDepth 100000 in
theorem own_5 (m : M) (w : World) (hk : m.kind = 5) : OwnS m w (k5 m) := by refine' oB
set_option maxHeartbeats 6400000 in
set_option maxRecDepth 100000 in
theorem own_6 (m : M) (w : World) (hk : m.kind = 6) : OwnS m w (k6 m) := by refine' oB
set_option maxHeartbeats 6400000 in
set_option maxRecDepth 100000 in
theorem own_7 (m : M) (w : World) (hk : m.kind = 7) : OwnS m w (k7 m) := by refine' oB
set_option maxHeartbeats 6400000 in
set_option maxRecDepth 100000 in
theorem own_8 (m : M) (w : World) (hk : m.kind = 8) : OwnS m w (k8 m) := by refine' oB
set_option maxHeartbeats 6400000 in
set_option maxRecDepth 100000 in
theorem own_9 (m : M) (w : World) (hk : m.kind = 9) : OwnS m w (k9 m) := by refine' oB
end Go.Proofs.YtjhfpobjbijcpaaGreatDoor.Own
namespace Go.Proofs.YtjhfpobjbijcpaaGreatDoor.Own
open Go.ChangeShapes Go.WideShapes Go.ChangeAt Go.RowKit
open Go.Proofs.YtjhfpobjbijcpaaGreatDoor.Ms
open Go.Proofs.YtjhfpobjbijcpaaGreatDoor.Box
open Go.Proofs.YtjhfpobjbijcpaaGreatDoor.Same
open Go.Proofs.YtjhfpobjbijcpaaGreatDoor.Or
set_option linter.unusedVariables false
set_option maxRecDepth 100000

set_option maxHeartbeats 6400000 in
set_option maxRecDepth 100000 in
theorem own_10 (m : M) (w : World) (hk : m.kind = 10) : OwnS m w (k10 m) := by refine' oB
set_option maxHeartbeats 6400000 in
set_option maxRecDepth 100000 in
theorem own_11 (m : M) (w : World) (hk : m.kind = 11) : OwnS m w (k11 m) := by refine' oB
set_option maxHeartbeats 6400000 in
set_option maxRecDepth 100000 in
theorem own_12 (m : M) (w : World) (hk : m.kind = 12) : OwnS m w (k12 m) := by refine' oB
end Go.Proofs.YtjhfpobjbijcpaaGreatDoor.Own
namespace Go.Proofs.YtjhfpobjbijcpaaGreatDoor.Own
open Go.ChangeShapes Go.WideShapes Go.ChangeAt Go.RowKit
open Go.Proofs.YtjhfpobjbijcpaaGreatDoor.Ms
open Go.Proofs.YtjhfpobjbijcpaaGreatDoor.Box
open Go.Proofs.YtjhfpobjbijcpaaGreatDoor.Same
open Go.Proofs.YtjhfpobjbijcpaaGreatDoor.Or
set_option linter.unusedVariables false
set_option maxRecDepth 100000

set_option maxHeartbeats 6400000 in
set_option maxRecDepth 100000 in
theorem own_13 (m : M) (w : World) (hk : m.kind = 13) : OwnS m w (k13 m) := by refine' oB
set_option maxHeartbeats 6400000 in
set_option maxRecDepth 100000 in
theorem own_14 (m : M) (w : World) (hk : m.kind = 14) : OwnS m w (k14 m) := by refine' oB
set_option maxHeartbeats 6400000 in
set_option maxRecDepth 100000 in
theorem own_low (m : M) (w : World) (hk : m.kind < 1) :
    Calls Tryz.prog 103 #[.agg m.cells] w fun e w' => e = .returned (.tuple #[.agg M.zero.cells, .bool false]) ∧ Below w.heap.size w w' := by
  obtain ⟨b1, b2, b3, bel⟩ := start3 w m
  go_enter Tryz.func103, Tryz.ntmps103
  go_upto_region 2 with fail
  change Code.wp _ _ _ _ (((w.alloc (.cells m.cells 38)).alloc (.cells M.zero.cells 38)).alloc (.cells M.zero.cells 38))
  generalize ((w.alloc (.cells m.cells 38)).alloc (.cells M.zero.cells 38)).alloc (.cells M.zero.cells 38) = V at *
  have c0 := b1.cs.c0
  have B2 := Lib.hid b2
  clear b1 b2 b3
  go_wp2_with (first | (refine wpList_built rfl 38 _ rfl M.zero.cells (by kernel_rfl) ?_) | (refine wpList_storeM (b := w.heap.size + 1) (m' := M.zero) rfl _ _ rfl rfl rfl B2.out ?_))
  exact bodyPost_ret (v := .tuple #[.agg M.zero.cells, .bool false]) (results_pair (p := 2) (q := 3) (ty := 38) rfl _ _ (w.heap.size + 1) _ rfl (loadVarM (B2.out.put (m' := M.zero))) (.bool false) rfl) rfl ⟨rfl, below_setRow bel (by omega) _⟩

set_option maxHeartbeats 6400000 in
set_option maxRecDepth 100000 in
theorem own_high (m : M) (w : World) (hk : 14 < m.kind) :
    Calls Tryz.prog 103 #[.agg m.cells] w fun e w' => e = .returned (.tuple #[.agg M.zero.cells, .bool false]) ∧ Below w.heap.size w w' := by
  obtain ⟨b1, b2, b3, bel⟩ := start3 w m
  go_enter Tryz.func103, Tryz.ntmps103
  go_upto_region 2 with fail
  change Code.wp _ _ _ _ (((w.alloc (.cells m.cells 38)).alloc (.cells M.zero.cells 38)).alloc (.cells M.zero.cells 38))
  generalize ((w.alloc (.cells m.cells 38)).alloc (.cells M.zero.cells 38)).alloc (.cells M.zero.cells 38) = V at *
  have c0 := b1.cs.c0
  have B2 := Lib.hid b2
  clear b1 b2 b3
  go_wp2_with (first | (refine wpList_built rfl 38 _ rfl M.zero.cells (by kernel_rfl) ?_) | (refine wpList_storeM (b := w.heap.size + 1) (m' := M.zero) rfl _ _ rfl rfl rfl B2.out ?_))
  exact bodyPost_ret (v := .tuple #[.agg M.zero.cells, .bool false]) (results_pair (p := 2) (q := 3) (ty := 38) rfl _ _ (w.heap.size + 1) _ rfl (loadVarM (B2.out.put (m' := M.zero))) (.bool false) rfl) rfl ⟨rfl, below_setRow bel (by omega) _⟩

end Go.Proofs.YtjhfpobjbijcpaaGreatDoor.Own
namespace Go.Proofs.YtjhfpobjbijcpaaGreatDoor.RBare
open Go.ChangeShapes Go.WideShapes Go.ChangeAt Go.RowKit
open Go.Proofs.YtjhfpobjbijcpaaGreatDoor.Ms
open Go.Proofs.YtjhfpobjbijcpaaGreatDoor.Box
open Go.Proofs.YtjhfpobjbijcpaaGreatDoor.Same
open Go.Proofs.YtjhfpobjbijcpaaGreatDoor.SameP
open Go.Proofs.YtjhfpobjbijcpaaGreatDoor.Hs
open Go.Proofs.YtjhfpobjbijcpaaGreatDoor.Or
open Go.Proofs.YtjhfpobjbijcpaaGreatDoor.RSame
open Go.Proofs.YtjhfpobjbijcpaaGreatDoor.Own
set_option linter.unusedVariables false
set_option maxRecDepth 100000

/-- What stays while the copy is filled. -/
def S1 (w : World) (m : M) (W : World) : Prop := Bx W w.heap.size m ∧ Below w.heap.size w W
theorem S1.off {w W : World} {m : M} (h : S1 w m W) (p : Addr) (v : Value) (hp : p.block = w.heap.size + 1) : S1 w m (W.setCell p v) := ⟨h.1.off (by omega) v, h.2.setCell (by omega) v⟩
theorem S1.drew {w W : World} {m : M} (h : S1 w m W) : S1 w m W.drew := ⟨h.1, h.2.drew⟩
theorem Bx_drew {W : World} {b : Nat} {m : M} (h : Bx W b m) : Bx W.drew b m := h
def x0 (m : M) : M := { M.zero with kind := m.kind, sa := m.sa, sl := m.sl, sc := m.sc }
theorem start2 (w : World) (m m' : M) (z : Array Value) (hz : z.size = 25) : S1 w m (((w.alloc (.cells m.cells 38)).alloc (.cells z 38)).setRow (w.heap.size + 1) m'.cells) ∧ Bx (((w.alloc (.cells m.cells 38)).alloc (.cells z 38)).setRow (w.heap.size + 1) m'.cells) (w.heap.size + 1) m' := by
  have h := heap_alloc_new (w.alloc (.cells m.cells 38)) (.cells z 38)
  rw [alloc_size] at h
  exact ⟨⟨((Bx.new w m).old _).row (by omega) _, below_setRow (balloc (balloc (Below.refl _ _) _) _) (by omega) _⟩, setRow_heap _ _ z m'.cells _ _ h⟩

end Go.Proofs.YtjhfpobjbijcpaaGreatDoor.RBare
