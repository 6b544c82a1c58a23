/-
  Whether a message is bare: the program's answer and the document's. Condition: lists of at most 2^20 elements.
-/
import Derived.Test.YteecialdkfaejaaDoorP6
import Derived.Test.YteecialdkfaejaaDoorP7
import Derived.Test.YteecialdkfaejaaDoorP8
import Derived.Test.YteecialdkfaejaaDoorRBare2
import Derived.Test.YteecialdkfaejaaDoorRBare3
import Derived.Test.YteecialdkfaejaaDoorRBare4
import Derived.Deep.WholeRow
namespace Go.Proofs.YteecialdkfaejaaDoor.Bare
open Go.ChangeShapes Go.WideShapes Go.ChangeAt Go.RowKit
open Go.Proofs.YteecialdkfaejaaDoor.Ms
open Go.Proofs.YteecialdkfaejaaDoor.Box
open Go.Proofs.YteecialdkfaejaaDoor.Same
open Go.Proofs.YteecialdkfaejaaDoor.SameP
open Go.Proofs.YteecialdkfaejaaDoor.Hs
open Go.Proofs.YteecialdkfaejaaDoor.RSame
open Go.Proofs.YteecialdkfaejaaDoor.Own
open Go.Proofs.YteecialdkfaejaaDoor.RBare
open Go.Proofs.YteecialdkfaejaaDoor.Or
set_option linter.unusedVariables false
set_option maxRecDepth 100000

theorem is_1 {m : M} (h : m.kind = 1) : isKind m = true ∧ ownM m = { k1 m with kind := m.kind } := by
  have hi : isKind m = true := by simp [isKind, h]
  exact ⟨hi, by simp [ownM, hi, fieldsOf, h]⟩
theorem is_2 {m : M} (h : m.kind = 2) : isKind m = true ∧ ownM m = { k2 m with kind := m.kind } := by
  have hi : isKind m = true := by simp [isKind, h]
  exact ⟨hi, by simp [ownM, hi, fieldsOf, h]⟩
theorem is_3 {m : M} (h : m.kind = 3) : isKind m = true ∧ ownM m = { k3 m with kind := m.kind } := by
  have hi : isKind m = true := by simp [isKind, h]
  exact ⟨hi, by simp [ownM, hi, fieldsOf, h]⟩
theorem is_4 {m : M} (h : m.kind = 4) : isKind m = true ∧ ownM m = { k4 m with kind := m.kind } := by
  have hi : isKind m = true := by simp [isKind, h]
  exact ⟨hi, by simp [ownM, hi, fieldsOf, h]⟩
theorem is_5 {m : M} (h : m.kind = 5) : isKind m = true ∧ ownM m = { k5 m with kind := m.kind } := by
  have hi : isKind m = true := by simp [isKind, h]
  exact ⟨hi, by simp [ownM, hi, fieldsOf, h]⟩
theorem is_6 {m : M} (h : m.kind = 6) : isKind m = true ∧ ownM m = { k6 m with kind := m.kind } := by
  have hi : isKind m = true := by simp [isKind, h]
  exact ⟨hi, by simp [ownM, hi, fieldsOf, h]⟩
theorem is_7 {m : M} (h : m.kind = 7) : isKind m = true ∧ ownM m = { k7 m with kind := m.kind } := by
  have hi : isKind m = true := by simp [isKind, h]
  exact ⟨hi, by simp [ownM, hi, fieldsOf, h]⟩
theorem is_8 {m : M} (h : m.kind = 8) : isKind m = true ∧ ownM m = { k8 m with kind := m.kind } := by
  have hi : isKind m = true := by simp [isKind, h]
  exact ⟨hi, by simp [ownM, hi, fieldsOf, h]⟩
theorem is_9 {m : M} (h : m.kind = 9) : isKind m = true ∧ ownM m = { k9 m with kind := m.kind } := by
  have hi : isKind m = true := by simp [isKind, h]
  exact ⟨hi, by simp [ownM, hi, fieldsOf, h]⟩
theorem is_10 {m : M} (h : m.kind = 10) : isKind m = true ∧ ownM m = { k10 m with kind := m.kind } := by
  have hi : isKind m = true := by simp [isKind, h]
  exact ⟨hi, by simp [ownM, hi, fieldsOf, h]⟩
theorem is_11 {m : M} (h : m.kind = 11) : isKind m = true ∧ ownM m = { k11 m with kind := m.kind } := by
  have hi : isKind m = true := by simp [isKind, h]
  exact ⟨hi, by simp [ownM, hi, fieldsOf, h]⟩
theorem is_12 {m : M} (h : m.kind = 12) : isKind m = true ∧ ownM m = { k12 m with kind := m.kind } := by
  have hi : isKind m = true := by simp [isKind, h]
  exact ⟨hi, by simp [ownM, hi, fieldsOf, h]⟩
theorem is_13 {m : M} (h : m.kind = 13) : isKind m = true ∧ ownM m = { k13 m with kind := m.kind } := by
  have hi : isKind m = true := by simp [isKind, h]
  exact ⟨hi, by simp [ownM, hi, fieldsOf, h]⟩
theorem is_14 {m : M} (h : m.kind = 14) : isKind m = true ∧ ownM m = { k14 m with kind := m.kind } := by
  have hi : isKind m = true := by simp [isKind, h]
  exact ⟨hi, by simp [ownM, hi, fieldsOf, h]⟩
theorem is_low {m : M} (h : m.kind < 1) : isKind m = false := by unfold isKind; exact decide_eq_false (by omega)
theorem is_high {m : M} (h : 14 < m.kind) : isKind m = false := by unfold isKind; exact decide_eq_false (by omega)
theorem is_not {m : M} (h : isKind m = false) : ownM m = M.zero := by simp [ownM, h]
theorem own_in {m : M} {w : World} (hm : m.In w) : (ownM m).In w := by
  rcases (show m.kind < 1 ∨ m.kind = 1 ∨ m.kind = 2 ∨ m.kind = 3 ∨ m.kind = 4 ∨ m.kind = 5 ∨ m.kind = 6 ∨ m.kind = 7 ∨ m.kind = 8 ∨ m.kind = 9 ∨ m.kind = 10 ∨ m.kind = 11 ∨ m.kind = 12 ∨ m.kind = 13 ∨ m.kind = 14 ∨ 14 < m.kind by omega) with h | h | h | h | h | h | h | h | h | h | h | h | h | h | h | h
  · rw [is_not (is_low h)]; exact ⟨DRow.nil _ _, SRow.nil _ _, Nat.zero_le _, Nat.zero_le _⟩
  · rw [(is_1 h).2]; exact ⟨DRow.nil _ _, SRow.nil _ _, Nat.zero_le _, Nat.zero_le _⟩
  · rw [(is_2 h).2]; exact ⟨DRow.nil _ _, SRow.nil _ _, Nat.zero_le _, Nat.zero_le _⟩
  · rw [(is_3 h).2]; exact ⟨DRow.nil _ _, hm.s, Nat.zero_le _, hm.sl⟩
  · rw [(is_4 h).2]; exact ⟨DRow.nil _ _, hm.s, Nat.zero_le _, hm.sl⟩
  · rw [(is_5 h).2]; exact ⟨hm.d, hm.s, hm.dl, hm.sl⟩
  · rw [(is_6 h).2]; exact ⟨DRow.nil _ _, hm.s, Nat.zero_le _, hm.sl⟩
  · rw [(is_7 h).2]; exact ⟨DRow.nil _ _, hm.s, Nat.zero_le _, hm.sl⟩
  · rw [(is_8 h).2]; exact ⟨DRow.nil _ _, hm.s, Nat.zero_le _, hm.sl⟩
  · rw [(is_9 h).2]; exact ⟨DRow.nil _ _, hm.s, Nat.zero_le _, hm.sl⟩
  · rw [(is_10 h).2]; exact ⟨DRow.nil _ _, hm.s, Nat.zero_le _, hm.sl⟩
  · rw [(is_11 h).2]; exact ⟨DRow.nil _ _, hm.s, Nat.zero_le _, hm.sl⟩
  · rw [(is_12 h).2]; exact ⟨DRow.nil _ _, hm.s, Nat.zero_le _, hm.sl⟩
  · rw [(is_13 h).2]; exact ⟨DRow.nil _ _, hm.s, Nat.zero_le _, hm.sl⟩
  · rw [(is_14 h).2]; exact ⟨DRow.nil _ _, SRow.nil _ _, Nat.zero_le _, Nat.zero_le _⟩
  · rw [is_not (is_high h)]; exact ⟨DRow.nil _ _, SRow.nil _ _, Nat.zero_le _, Nat.zero_le _⟩

theorem own_any (m : M) (w : World) : Calls Tryd.prog 41 #[.agg m.cells] w fun e w' => e = .returned (.tuple #[.agg (ownM m).cells, .bool (isKind m)]) ∧ Below w.heap.size w w' := by
  rcases (show m.kind < 1 ∨ m.kind = 1 ∨ m.kind = 2 ∨ m.kind = 3 ∨ m.kind = 4 ∨ m.kind = 5 ∨ m.kind = 6 ∨ m.kind = 7 ∨ m.kind = 8 ∨ m.kind = 9 ∨ m.kind = 10 ∨ m.kind = 11 ∨ m.kind = 12 ∨ m.kind = 13 ∨ m.kind = 14 ∨ 14 < m.kind by omega) with h | h | h | h | h | h | h | h | h | h | h | h | h | h | h | h
  · rw [is_not (is_low h), is_low h]; exact own_low m w h
  · rw [(is_1 h).1, (is_1 h).2]; exact own_1 m w h
  · rw [(is_2 h).1, (is_2 h).2]; exact own_2 m w h
  · rw [(is_3 h).1, (is_3 h).2]; exact own_3 m w h
  · rw [(is_4 h).1, (is_4 h).2]; exact own_4 m w h
  · rw [(is_5 h).1, (is_5 h).2]; exact own_5 m w h
  · rw [(is_6 h).1, (is_6 h).2]; exact own_6 m w h
  · rw [(is_7 h).1, (is_7 h).2]; exact own_7 m w h
  · rw [(is_8 h).1, (is_8 h).2]; exact own_8 m w h
  · rw [(is_9 h).1, (is_9 h).2]; exact own_9 m w h
  · rw [(is_10 h).1, (is_10 h).2]; exact own_10 m w h
  · rw [(is_11 h).1, (is_11 h).2]; exact own_11 m w h
  · rw [(is_12 h).1, (is_12 h).2]; exact own_12 m w h
  · rw [(is_13 h).1, (is_13 h).2]; exact own_13 m w h
  · rw [(is_14 h).1, (is_14 h).2]; exact own_14 m w h
  · rw [is_not (is_high h), is_high h]; exact own_high m w h

/-- Is it bare? -/
def bareN (m : M) : Bool := isKind m && M.same m (ownM m)
theorem same_comm (a b : M) : M.same a b = M.same b a := by
  have ei : ∀ x y : Int, (x == y) = (y == x) := fun x y => by rw [Bool.eq_iff_iff, beq_iff_eq, beq_iff_eq]; exact eq_comm
  have es : ∀ x y : List UInt8, (x == y) = (y == x) := fun x y => by rw [Bool.eq_iff_iff, beq_iff_eq, beq_iff_eq]; exact eq_comm
  have ed : ∀ x y : List El, decide (x = y) = decide (y = x) := fun x y => decide_eq_decide.2 eq_comm
  unfold M.same M.flatE
  rw [ei a.kind, ei a.cmd, ei a.ver, es a.auth.toList, ei a.family, ei a.ae, es a.pfx.toList, ei a.plen, ei a.tag, es a.next.toList, ei a.metric, es a.id.toList, ei a.seq, ei a.seq2, ei a.interval, ei a.flags, ei a.hops, ei a.nonce, ei a.cost, es a.addr.toList, es a.orig.toList, ei a.typ, es a.data.toList, ed a.ll, ed a.sl]

set_option maxHeartbeats 1600000 in
set_option maxRecDepth 100000 in
theorem bare_any (m : M) (w : World) (hm : m.In w) :
    Calls Tryd.prog 21 #[.agg m.cells] w fun e w' => e = .returned (.bool (bareN m)) ∧ Below w.heap.size w w' := by
  have HB := Lib.hid (show bareN m = (isKind m && M.same m (ownM m)) from rfl)
  have P := Lib.hid (fun w => own_any m w)
  have PS := Lib.hid (fun w (hm : m.In w) => same_any m (ownM m) w hm (own_in hm))
  generalize ownM m = o at *
  have hb := Lib.hid (Bx.new w m)
  have bel := balloc (Below.refl _ w) (.cells m.cells 40)
  have hm1 := hm.below bel
  clear hm
  cases hk : isKind m
  all_goals
    rw [hk] at P HB
    have HK := Lib.hid hk
    clear hk
    go_enter Tryd.func21, Tryd.ntmps21
    go_upto_region 1 with fail
    generalize w.alloc (.cells m.cells 40) = V at *
    go_wp2_with (first | (refine wpList_loadM (b := w.heap.size) (m := m) rfl _ rfl rfl hb.out ?_))
    refine (P.out _).mono ?_
    rintro e V ⟨rfl, hb1⟩
    have bel := bcall bel hb1
    have hb := Lib.hid (hb.out.below hb1)
    have hm1 := hm1.below hb1
    clear hb1 P
    go_upto_region 2 with (first | (refine wpList_storeM (m := M.zero) (m' := o) rfl _ _ rfl rfl rfl (heap_alloc_new _ _) ?_))
    change Code.wp _ _ _ _ ((V.alloc (.cells M.zero.cells 40)).setRow V.heap.size o.cells)
    rw [World.setRow_alloc_new]
    have B1 := Lib.hid (hb.out.old (.cells o.cells 40))
    have B2 := Lib.hid (Bx.new V o)
    have HB2 := Lib.hid (balloc bel (.cells o.cells 40))
    have HM := Lib.hid (hm1.below (balloc (Below.refl _ V) (.cells o.cells 40)))
    clear hb bel hm1
    generalize V.alloc (.cells o.cells 40) = V1 at *
  · go_wp2
    go_ret
    exact ⟨bool_eq (by rw [HB.out]; rfl), HB2.out⟩
  · go_wp2_with (first | (refine st_yes (v := .agg (M.cells m)) (by rfl) rfl (run_loadM (x := .tmp 1) rfl rfl B1.out) ?_) | (refine st_yes (v := .agg (M.cells o)) (by rfl) rfl (run_loadM (x := .tmp 3) rfl rfl B2.out) ?_))
    refine (PS.out _ HM.out).mono ?_
    rintro e w3 ⟨rfl, hb3⟩
    have HB3 := Lib.hid (bcall HB2.out hb3)
    clear hb3
    go_wp2
    go_ret
    exact ⟨bool_eq (by rw [HB.out]; simp), HB3.out⟩

end Go.Proofs.YteecialdkfaejaaDoor.Bare
