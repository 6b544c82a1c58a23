/-
  Whether a message is bare: the program's answer and the document's. Condition: lists of at most 2^20 elements.
-/
import Derived.Test.YtjhfpobjbijcpaaGreatDoorE17
import Derived.Test.YtjhfpobjbijcpaaGreatDoorE18
import Derived.Test.YtjhfpobjbijcpaaGreatDoorE19
import Derived.Test.YtjhfpobjbijcpaaGreatDoorE20
import Derived.Test.YtjhfpobjbijcpaaGreatDoorE21
import Derived.Deep.WholeRow
namespace Go.Proofs.YtjhfpobjbijcpaaGreatDoor.Bare
open Go.ChangeShapes Go.WideShapes Go.ChangeAt Go.RowKit
open Go.Proofs.YtjhfpobjbijcpaaGreatDoor.Ms
open Go.Proofs.YtjhfpobjbijcpaaGreatDoor.Box
open Go.Proofs.YtjhfpobjbijcpaaGreatDoor.Same
open Go.Proofs.YtjhfpobjbijcpaaGreatDoor.SameP
open Go.Proofs.YtjhfpobjbijcpaaGreatDoor.Hs
open Go.Proofs.YtjhfpobjbijcpaaGreatDoor.RSame
open Go.Proofs.YtjhfpobjbijcpaaGreatDoor.Own
open Go.Proofs.YtjhfpobjbijcpaaGreatDoor.RBare
open Go.Proofs.YtjhfpobjbijcpaaGreatDoor.Or
set_option linter.unusedVariables false
set_option maxRecDepth 100000

theorem is_1 {m : M} (h : m.kind = 1) : isKind m = true ∧ ownM m = { k1 m with kind := m.kind } := by
  have hi : isKind m = true := by simp [isKind, h]
  exact ⟨hi, by simp [ownM, hi, fieldsOf, h]⟩
theorem is_2 {m : M} (h : m.kind = 2) : isKind m = true ∧ ownM m = { k2 m with kind := m.kind } := by
  have hi : isKind m = true := by simp [isKind, h]
  exact ⟨hi, by simp [ownM, hi, fieldsOf, h]⟩
theorem is_3 {m : M} (h : m.kind = 3) : isKind m = true ∧ ownM m = { k3 m with kind := m.kind } := by
  have hi : isKind m = true := by simp [isKind, h]
  exact ⟨hi, by simp [ownM, hi, fieldsOf, h]⟩
theorem is_4 {m : M} (h : m.kind = 4) : isKind m = true ∧ ownM m = { k4 m with kind := m.kind } := by
  have hi : isKind m = true := by simp [isKind, h]
  exact ⟨hi, by simp [ownM, hi, fieldsOf, h]⟩
theorem is_5 {m : M} (h : m.kind = 5) : isKind m = true ∧ ownM m = { k5 m with kind := m.kind } := by
  have hi : isKind m = true := by simp [isKind, h]
  exact ⟨hi, by simp [ownM, hi, fieldsOf, h]⟩
theorem is_6 {m : M} (h : m.kind = 6) : isKind m = true ∧ ownM m = { k6 m with kind := m.kind } := by
  have hi : isKind m = true := by simp [isKind, h]
  exact ⟨hi, by simp [ownM, hi, fieldsOf, h]⟩
theorem is_7 {m : M} (h : m.kind = 7) : isKind m = true ∧ ownM m = { k7 m with kind := m.kind } := by
  have hi : isKind m = true := by simp [isKind, h]
  exact ⟨hi, by simp [ownM, hi, fieldsOf, h]⟩
theorem is_8 {m : M} (h : m.kind = 8) : isKind m = true ∧ ownM m = { k8 m with kind := m.kind } := by
  have hi : isKind m = true := by simp [isKind, h]
  exact ⟨hi, by simp [ownM, hi, fieldsOf, h]⟩
theorem is_9 {m : M} (h : m.kind = 9) : isKind m = true ∧ ownM m = { k9 m with kind := m.kind } := by
  have hi : isKind m = true := by simp [isKind, h]
  exact ⟨hi, by simp [ownM, hi, fieldsOf, h]⟩
theorem is_10 {m : M} (h : m.kind = 10) : isKind m = true ∧ ownM m = { k10 m with kind := m.kind } := by
  have hi : isKind m = true := by simp [isKind, h]
  exact ⟨hi, by simp [ownM, hi, fieldsOf, h]⟩
theorem is_11 {m : M} (h : m.kind = 11) : isKind m = true ∧ ownM m = { k11 m with kind := m.kind } := by
  have hi : isKind m = true := by simp [isKind, h]
  exact ⟨hi, by simp [ownM, hi, fieldsOf, h]⟩
theorem is_12 {m : M} (h : m.kind = 12) : isKind m = true ∧ ownM m = { k12 m with kind := m.kind } := by
  have hi : isKind m = true := by simp [isKind, h]
  exact ⟨hi, by simp [ownM, hi, fieldsOf, h]⟩
theorem is_13 {m : M} (h : m.kind = 13) : isKind m = true ∧ ownM m = { k13 m with kind := m.kind } := by
  have hi : isKind m = true := by simp [isKind, h]
  exact ⟨hi, by simp [ownM, hi, fieldsOf, h]⟩
theorem is_14 {m : M} (h : m.kind = 14) : isKind m = true ∧ ownM m = { k14 m with kind := m.kind } := by
  have hi : isKind m = true := by simp [isKind, h]
  exact ⟨hi, by simp [ownM, hi, fieldsOf, h]⟩
theorem is_low {m : M} (h : m.kind < 1) : isKind m = false := by unfold isKind; exact decide_eq_false (by omega)
theorem is_high {m : M} (h : 14 < m.kind) : isKind m = false := by unfold isKind; exact decide_eq_false (by omega)
theorem is_not {m : M} (h : isKind m = false) : ownM m = M.zero := by simp [ownM, h]
theorem own_in {m : M} {w : World} (hm : m.In w) : (ownM m).In w := by
  rcases (show m.kind < 1 ∨ m.kind = 1 ∨ m.kind = 2 ∨ m.kind = 3 ∨ m.kind = 4 ∨ m.kind = 5 ∨ m.kind = 6 ∨ m.kind = 7 ∨ m.kind = 8 ∨ m.kind = 9 ∨ m.kind = 10 ∨ m.kind = 11 ∨ m.kind = 12 ∨ m.kind = 13 ∨ m.kind = 14 ∨ 14 < m.kind by omega) with h | h | h | h | h | h | h | h | h | h | h | h | h | h | h | h
  · rw [is_not (is_low h)]; exact ⟨DRow.nil _ _, SRow.nil _ _, Nat.zero_le _, Nat.zero_le _⟩
  · rw [(is_1 h).2]; exact ⟨DRow.nil _ _, SRow.nil _ _, Nat.zero_le _, Nat.zero_le _⟩
  · rw [(is_2 h).2]; exact ⟨DRow.nil _ _, SRow.nil _ _, Nat.zero_le _, Nat.zero_le _⟩
  · rw [(is_3 h).2]; exact ⟨DRow.nil _ _, hm.s, Nat.zero_le _, hm.sl⟩
  · rw [(is_4 h).2]; exact ⟨DRow.nil _ _, hm.s, Nat.zero_le _, hm.sl⟩
  · rw [(is_5 h).2]; exact ⟨hm.d, hm.s, hm.dl, hm.sl⟩
  · rw [(is_6 h).2]; exact ⟨DRow.nil _ _, hm.s, Nat.zero_le _, hm.sl⟩
  · rw [(is_7 h).2]; exact ⟨DRow.nil _ _, hm.s, Nat.zero_le _, hm.sl⟩
  · rw [(is_8 h).2]; exact ⟨DRow.nil _ _, hm.s, Nat.zero_le _, hm.sl⟩
  · rw [(is_9 h).2]; exact ⟨DRow.nil _ _, hm.s, Nat.zero_le _, hm.sl⟩
  · rw [(is_10 h).2]; exact ⟨DRow.nil _ _, hm.s, Nat.zero_le _, hm.sl⟩
  · rw [(is_11 h).2]; exact ⟨DRow.nil _ _, hm.s, Nat.zero_le _, hm.sl⟩
  · rw [(is_12 h).2]; exact ⟨DRow.nil _ _, hm.s, Nat.zero_le _, hm.sl⟩
  · rw [(is_13 h).2]; exact ⟨DRow.nil _ _, hm.s, Nat.zero_le _, hm.sl⟩
  · rw [(is_14 h).2]; exact ⟨DRow.nil _ _, SRow.nil _ _, Nat.zero_le _, Nat.zero_le _⟩
  · rw [is_not (is_high h)]; exact ⟨DRow.nil _ _, SRow.nil _ _, Nat.zero_le _, Nat.zero_le _⟩

theorem own_any (m : M) (w : World) : Calls Tryz.prog 103 #[.agg m.cells] w fun e w' => e = .returned (.tuple #[.agg (ownM m).cells, .bool (isKind m)]) ∧ Below w.heap.size w w' := by
  rcases (show m.kind < 1 ∨ m.kind = 1 ∨ m.kind = 2 ∨ m.kind = 3 ∨ m.kind = 4 ∨ m.kind = 5 ∨ m.kind = 6 ∨ m.kind = 7 ∨ m.kind = 8 ∨ m.kind = 9 ∨ m.kind = 10 ∨ m.kind = 11 ∨ m.kind = 12 ∨ m.kind = 13 ∨ m.kind = 14 ∨ 14 < m.kind by omega) with h | h | h | h | h | h | h | h | h | h | h | h | h | h | h | h
  · rw [is_not (is_low h), is_low h]; exact own_low m w h
  · rw [(is_1 h).1, (is_1 h).2]; exact own_1 m w h _ rfl
  · rw [(is_2 h).1, (is_2 h).2]; exact own_2 m w h _ rfl
  · rw [(is_3 h).1, (is_3 h).2]; exact own_3 m w h _ rfl
  · rw [(is_4 h).1, (is_4 h).2]; exact own_4 m w h _ rfl
  · rw [(is_5 h).1, (is_5 h).2]; exact own_5 m w h _ rfl
  · rw [(is_6 h).1, (is_6 h).2]; exact own_6 m w h _ rfl
  · rw [(is_7 h).1, (is_7 h).2]; exact own_7 m w h _ rfl
  · rw [(is_8 h).1, (is_8 h).2]; exact own_8 m w h _ rfl
  · rw [(is_9 h).1, (is_9 h).2]; exact own_9 m w h _ rfl
  · rw [(is_10 h).1, (is_10 h).2]; exact own_10 m w h _ rfl
  · rw [(is_11 h).1, (is_11 h).2]; exact own_11 m w h _ rfl
  · rw [(is_12 h).1, (is_12 h).2]; exact own_12 m w h _ rfl
  · rw [(is_13 h).1, (is_13 h).2]; exact own_13 m w h _ rfl
  · rw [(is_14 h).1, (is_14 h).2]; exact own_14 m w h _ rfl
  · rw [is_not (is_high h), is_high h]; exact own_high m w h

/-- Is it bare? -/
def bareN (m : M) : Bool := isKind m && M.same m (ownM m)
theorem same_comm (a b : M) : M.same a b = M.same b a := by
  have ei : ∀ x y : Int, (x == y) = (y == x) := fun x y => by rw [Bool.eq_iff_iff, beq_iff_eq, beq_iff_eq]; exact eq_comm
  have es : ∀ x y : List UInt8, (x == y) = (y == x) := fun x y => by rw [Bool.eq_iff_iff, beq_iff_eq, beq_iff_eq]; exact eq_comm
  have ed : ∀ x y : List El, decide (x = y) = decide (y = x) := fun x y => decide_eq_decide.2 eq_comm
  unfold M.same M.flatE
  rw [ei a.kind, ei a.cmd, ei a.ver, es a.auth.toList, ei a.family, ei a.ae, es a.pfx.toList, ei a.plen, ei a.tag, es a.next.toList, ei a.metric, es a.id.toList, ei a.seq, ei a.seq2, ei a.interval, ei a.flags, ei a.hops, ei a.nonce, ei a.cost, es a.addr.toList, es a.orig.toList, ei a.typ, es a.data.toList, ed a.ll, ed a.sl]

set_option maxHeartbeats 1600000 in
set_option maxRecDepth 100000 in
theorem bare_any (m : M) (w : World) (hm : m.In w) :
    Calls Tryz.prog 75 #[.agg m.cells] w fun e w' => e = .returned (.bool (bareN m)) ∧ Below w.heap.size w w' := by
  have HB := Lib.hid (show bareN m = (isKind m && M.same m (ownM m)) from rfl)
  have P := Lib.hid (fun w => own_any m w)
  have PS := Lib.hid (fun w (hm : m.In w) => same_any m (ownM m) w hm (own_in hm))
  generalize ownM m = o at *
  have hb := Lib.hid (Bx.new w m)
  have bel := balloc (Below.refl _ w) (.cells m.cells 38)
  have hm1 := hm.below bel
  clear hm
  cases hk : isKind m
  all_goals
    rw [hk] at P HB
    have HK := Lib.hid hk
    clear hk
    go_enter Tryz.func75, Tryz.ntmps75
    go_upto_region 1 with fail
    generalize w.alloc (.cells m.cells 38) = V at *
    go_wp2_with (first | (refine wpList_loadM (b := w.heap.size) (m := m) rfl _ rfl rfl hb.out ?_))
    refine (P.out _).mono ?_
    rintro e V ⟨rfl, hb1⟩
    have bel := bcall bel hb1
    have hb := Lib.hid (hb.out.below hb1)
    have hm1 := hm1.below hb1
    clear hb1 P
    go_upto_region 2 with (first | (refine wpList_storeM (m := M.zero) (m' := o) rfl _ _ rfl rfl rfl (heap_alloc_new _ _) ?_))
    change Code.wp _ _ _ _ ((V.alloc (.cells M.zero.cells 38)).setRow V.heap.size o.cells)
    rw [World.setRow_alloc_new]
    have B1 := Lib.hid (hb.out.old (.cells o.cells 38))
    have B2 := Lib.hid (Bx.new V o)
    have HB2 := Lib.hid (balloc bel (.cells o.cells 38))
    have HM := Lib.hid (hm1.below (balloc (Below.refl _ V) (.cells o.cells 38)))
    clear hb bel hm1
    generalize V.alloc (.cells o.cells 38) = V1 at *
  · go_wp2
    go_ret
    exact ⟨bool_eq (by rw [HB.out]; rfl), HB2.out⟩
  · go_wp2_with (first | (refine st_yes (v := .agg (M.cells m)) (by rfl) rfl (run_loadM (x := .tmp 1) rfl rfl B1.out) ?_) | (refine st_yes (v := .agg (M.cells o)) (by rfl) rfl (run_loadM (x := .tmp 3) rfl rfl B2.out) ?_))
    refine (PS.out _ HM.out).mono ?_
    rintro e w3 ⟨rfl, hb3⟩
    have HB3 := Lib.hid (bcall HB2.out hb3)
    clear hb3
    go_wp2
    go_ret
    exact ⟨bool_eq (by rw [HB.out]; simp), HB3.out⟩

set_option maxHeartbeats 6400000 in
set_option maxRecDepth 100000 in
theorem rbare_no (m : M) (w : World) (hk : m.kind < 1 ∨ 14 < m.kind) :
    Calls Tryz.prog 54 #[.agg m.cells] w fun e w' => e = .returned (.bool false) ∧ Below w.heap.size w w' := by
  have HK := Lib.hid hk
  clear hk
  go_enter Tryz.func54, Tryz.ntmps54
  go_upto_region 1 with fail
  have b0 := Bx.new w m
  have hsz := alloc_size w (.cells m.cells 38)
  have c0 := b0.cs.c0
  have c24 := b0.cs.c24
  clear b0
  obtain ⟨hS, bx⟩ := start2 w m (x0 m) M.zero.cells rfl
  have hz := heap_alloc_new (w.alloc (.cells m.cells 38)) (.cells M.zero.cells 38)
  generalize w.alloc (.cells m.cells 38) = V0 at *
  rw [hsz] at hz
  go_upto_region 2 with (first | (refine wpList_built rfl 38 _ rfl (x0 m).cells (by kernel_rfl) ?_) | (change wpList _ _ _ _ _ (V0.alloc (.cells M.zero.cells 38)); refine wpList_storeM (b := w.heap.size + 1) (m := M.zero) (m' := x0 m) rfl _ _ rfl (by first | rfl | (rw [← hsz]; rfl)) rfl hz ?_))
  clear hz c0 c24
  generalize (V0.alloc (.cells M.zero.cells 38)).setRow (w.heap.size + 1) (x0 m).cells = V at *
  clear hsz bx
  have c0 := hS.1.cs.c0
  have HS := Lib.hid hS.2
  clear hS
  rcases HK.out with hk | hk
  · go_wp2
    go_ret
    exact ⟨rfl, HS.out⟩
  · go_wp2
    go_ret
    exact ⟨rfl, HS.out⟩

theorem rbare_any (m : M) (w : World) (hm : m.In w) :
    Calls Tryz.prog 54 #[.agg m.cells] w fun e w' => e = .returned (.bool (bareN m)) ∧ Below w.heap.size w w' := by
  rcases (show m.kind < 1 ∨ m.kind = 1 ∨ m.kind = 2 ∨ m.kind = 3 ∨ m.kind = 4 ∨ m.kind = 5 ∨ m.kind = 6 ∨ m.kind = 7 ∨ m.kind = 8 ∨ m.kind = 9 ∨ m.kind = 10 ∨ m.kind = 11 ∨ m.kind = 12 ∨ m.kind = 13 ∨ m.kind = 14 ∨ 14 < m.kind by omega) with h | h | h | h | h | h | h | h | h | h | h | h | h | h | h | h
  · rw [show bareN m = false by simp [bareN, is_low h]]; exact rbare_no m w (.inl h)
  · rw [show bareN m = M.same { k1 m with kind := 1 } m by rw [bareN, (is_1 h).1, (is_1 h).2, same_comm, h]; rfl]; exact rbare_1 m w h hm
  · rw [show bareN m = M.same { k2 m with kind := 2 } m by rw [bareN, (is_2 h).1, (is_2 h).2, same_comm, h]; rfl]; exact rbare_2 m w h hm
  · rw [show bareN m = M.same { k3 m with kind := m.kind } m by rw [bareN, (is_3 h).1, (is_3 h).2, same_comm]; rfl]; exact rbare_3 m w h hm
  · rw [show bareN m = M.same { k4 m with kind := m.kind } m by rw [bareN, (is_4 h).1, (is_4 h).2, same_comm]; rfl]; exact rbare_4 m w h hm
  · rw [show bareN m = M.same { k5 m with kind := m.kind } m by rw [bareN, (is_5 h).1, (is_5 h).2, same_comm]; rfl]; exact rbare_5 m w h hm
  · rw [show bareN m = M.same { k6 m with kind := m.kind } m by rw [bareN, (is_6 h).1, (is_6 h).2, same_comm]; rfl]; exact rbare_6 m w h hm
  · rw [show bareN m = M.same { k7 m with kind := m.kind } m by rw [bareN, (is_7 h).1, (is_7 h).2, same_comm]; rfl]; exact rbare_7 m w h hm
  · rw [show bareN m = M.same { k8 m with kind := m.kind } m by rw [bareN, (is_8 h).1, (is_8 h).2, same_comm]; rfl]; exact rbare_8 m w h hm
  · rw [show bareN m = M.same { k9 m with kind := m.kind } m by rw [bareN, (is_9 h).1, (is_9 h).2, same_comm]; rfl]; exact rbare_9 m w h hm
  · rw [show bareN m = M.same { k10 m with kind := m.kind } m by rw [bareN, (is_10 h).1, (is_10 h).2, same_comm]; rfl]; exact rbare_10 m w h hm
  · rw [show bareN m = M.same { k11 m with kind := m.kind } m by rw [bareN, (is_11 h).1, (is_11 h).2, same_comm]; rfl]; exact rbare_11 m w h hm
  · rw [show bareN m = M.same { k12 m with kind := m.kind } m by rw [bareN, (is_12 h).1, (is_12 h).2, same_comm]; rfl]; exact rbare_12 m w h hm
  · rw [show bareN m = M.same { k13 m with kind := m.kind } m by rw [bareN, (is_13 h).1, (is_13 h).2, same_comm]; rfl]; exact rbare_13 m w h hm
  · rw [show bareN m = M.same { k14 m with kind := 14 } m by rw [bareN, (is_14 h).1, (is_14 h).2, same_comm, h]; rfl]; exact rbare_14 m w h hm
  · rw [show bareN m = false by simp [bareN, is_high h]]; exact rbare_no m w (.inr h)
end Go.Proofs.YtjhfpobjbijcpaaGreatDoor.Bare
