/-
  Whether Subs may be: the program's Right and the document's; whether they are few, and the same, as the statements ask. Condition: lists of at most 2^20 elements.
  A message with the fields of its kind alone: the program's answer, kinds 1 to 4. A message with the fields of its kind alone: the program's answer, kinds 5 to 9.
  A message with the fields of its kind alone: the program's answer, kinds 10 to 12. A message with the fields of its kind alone: the program's answer, kinds 13 to 14, and none.
  Whether a message is bare: the document's answer, kinds one. Condition: lists of at most 2^20 elements. Whether a message is bare: the document's answer, kinds 1 2 3 6. Condition: lists of at most 2^20 elements.
-/
import Derived.Test.YteecialdkfaejaaGreatDoorQ02
import Derived.Test.YteecialdkfaejaaGreatDoorQ03
import Derived.Test.YteecialdkfaejaaGreatDoorQ04
import Derived.Test.YteecialdkfaejaaGreatDoorQ05
namespace Go.Proofs.YteecialdkfaejaaGreatDoor.S2
open Go.ChangeShapes Go.WideShapes Go.ChangeAt Go.RowKit
open Go.Proofs.YteecialdkfaejaaGreatDoor.Ms
open Go.Proofs.YteecialdkfaejaaGreatDoor.Cnt
open Go.Proofs.YteecialdkfaejaaGreatDoor.S1
set_option linter.unusedVariables false
set_option maxRecDepth 100000
set_option maxRecDepth 100000

set_option maxHeartbeats 1600000 in
theorem right_any (a : Option Addr) (c : Nat) (l : List El) (w : World) (hl : SRow w a l) (ln : l.length ≤ 1048576) (lb : ∀ x ∈ l, x.1.size ≤ 1099511627776) :
    Calls Tryz.prog 19 #[.slice a l.length c] w fun e w' => e = .returned (.bool (okS l)) ∧ Below w.heap.size w w' := by
  have P := Lib.hid (may_any a c l 2 127 w hl ln lb)
  clear lb
  cases hm : mayB l 2 127
  · have HK : Hid (okS l = false) := Lib.hid (by unfold okS; rw [hm]; rfl)
    rw [hm] at P
    clear hm hl ln
    go_enter Tryz.func19, Tryz.ntmps19
    go_wp2_with fail
    refine P.out.mono ?_
    rintro e w1 ⟨rfl, hb⟩
    go_wp2
    go_ret
    exact ⟨bool_eq HK.out.symm, hb⟩
  · have HB := bytesN_most hm
    have PB := Lib.hid (fun W (hb : Below w.heap.size w W) => bytes_any a c l W (hl.below hb) ln (by omega))
    have hb1 : ((bytesN l : Nat) : Int) ≤ 269484032 := by omega
    have hb0 : 0 ≤ ((bytesN l : Nat) : Int) := Int.natCast_nonneg _
    have HK : Hid (okS l = decide (((bytesN l : Nat) : Int) ≤ 200)) := Lib.hid (by unfold okS; rw [hm, Bool.true_and]; simp; omega)
    rw [hm] at P
    clear hm hl ln HB
    generalize ((bytesN l : Nat) : Int) = n at *
    go_enter Tryz.func19, Tryz.ntmps19
    go_wp2_with fail
    refine P.out.mono ?_
    rintro e w1 ⟨rfl, hb⟩
    have HB := Lib.hid hb
    clear hb P
    go_wp2_with fail
    refine (PB.out _ HB.out).mono ?_
    rintro e w2 ⟨rfl, hb⟩
    have HB := Lib.hid (bcall HB.out hb)
    clear hb PB
    go_wp2
    go_ret
    exact ⟨bool_eq HK.out.symm, HB.out⟩
set_option maxHeartbeats 1600000 in
theorem rright_any (a : Option Addr) (c : Nat) (l : List El) (w : World) (hl : SRow w a l) (ln : l.length ≤ 1048576) (lb : ∀ x ∈ l, x.1.size ≤ 1099511627776) :
    Calls Tryz.prog 24 #[.slice a l.length c] w fun e w' => e = .returned (.bool (okS l)) ∧ Below w.heap.size w w' := by
  have P := Lib.hid (rmay_any a c l 2 127 w hl ln lb)
  clear lb
  cases hm : mayB l 2 127
  · have HK : Hid (okS l = false) := Lib.hid (by unfold okS; rw [hm]; rfl)
    rw [hm] at P
    clear hm hl ln
    go_enter Tryz.func24, Tryz.ntmps24
    go_wp2_with fail
    refine P.out.mono ?_
    rintro e w1 ⟨rfl, hb⟩
    go_wp2
    go_ret
    exact ⟨bool_eq HK.out.symm, hb⟩
  · have HB := bytesN_most hm
    have PB := Lib.hid (fun W (hb : Below w.heap.size w W) => rbytes_any a c l W (hl.below hb) ln (by omega))
    have hb1 : ((bytesN l : Nat) : Int) ≤ 269484032 := by omega
    have hb0 : 0 ≤ ((bytesN l : Nat) : Int) := Int.natCast_nonneg _
    have HK : Hid (okS l = decide (((bytesN l : Nat) : Int) ≤ 200)) := Lib.hid (by unfold okS; rw [hm, Bool.true_and]; simp; omega)
    rw [hm] at P
    clear hm hl ln HB
    generalize ((bytesN l : Nat) : Int) = n at *
    go_enter Tryz.func24, Tryz.ntmps24
    go_wp2_with fail
    refine P.out.mono ?_
    rintro e w1 ⟨rfl, hb⟩
    have HB := Lib.hid hb
    clear hb P
    go_wp2_with fail
    refine (PB.out _ HB.out).mono ?_
    rintro e w2 ⟨rfl, hb⟩
    have HB := Lib.hid (bcall HB.out hb)
    clear hb PB
    go_wp2
    go_ret
    exact ⟨bool_eq HK.out.symm, HB.out⟩
end Go.Proofs.YteecialdkfaejaaGreatDoor.S2
namespace Go.Proofs.YteecialdkfaejaaGreatDoor.Own
open Go.ChangeShapes Go.WideShapes Go.ChangeAt Go.RowKit
open Go.Proofs.YteecialdkfaejaaGreatDoor.Ms
open Go.Proofs.YteecialdkfaejaaGreatDoor.Box
open Go.Proofs.YteecialdkfaejaaGreatDoor.Same
open Go.Proofs.YteecialdkfaejaaGreatDoor.Or
set_option linter.unusedVariables false
set_option maxRecDepth 100000

set_option maxHeartbeats 6400000 in
set_option maxRecDepth 100000 in
theorem own_1 (m : M) (w : World) (hk : m.kind = 1) :
    Calls Tryz.prog 35 #[.agg m.cells] w fun e w' => e = .returned (.tuple #[.agg (M.cells { k1 m with kind := m.kind }), .bool true]) ∧ Below w.heap.size w w' := by
  obtain ⟨b1, b2, b3, bel⟩ := start3 w m
  go_enter Tryz.func35, Tryz.ntmps35
  go_upto_region 2 with fail
  change Code.wp _ _ _ _ (((w.alloc (.cells m.cells 31)).alloc (.cells M.zero.cells 31)).alloc (.cells M.zero.cells 31))
  generalize ((w.alloc (.cells m.cells 31)).alloc (.cells M.zero.cells 31)).alloc (.cells M.zero.cells 31) = V at *
  obtain ⟨c0, c1, c2, c3, c4, c5, c6, c7, c8, c9, c10, c11, c12, c13, c14, c15, c16, c17, c18, c19, c20, c21, c22, c23, c24⟩ := b1.cs
  clear c5 c11 c12 c13 c14 c15 c16 c17 c18 c19 c20 c21 c22 c23 c24
  rw [hk] at c0
  have HK := Lib.hid hk
  have B1 := Lib.hid b1
  have B2 := Lib.hid b2
  have B3 := Lib.hid b3
  clear hk b1 b2 b3
  go_upto_region 32 with (first | (refine wpList_built rfl 31 _ rfl (M.cells (k1 m)) (by kernel_rfl) ?_) | (refine wpList_storeM (b := w.heap.size + 1 + 1) (m' := k1 m) rfl _ _ rfl rfl rfl B3.out ?_))
  clear c0 c1 c2 c3 c4 c6 c7 c8 c9 c10
  have b3 := B3.out.put (m' := k1 m)
  have b2 := B2.out.row (g := w.heap.size + 1 + 1) (by omega) (M.cells (k1 m))
  have b1 := B1.out.row (g := w.heap.size + 1 + 1) (by omega) (M.cells (k1 m))
  have bel := below_setRow bel (g := w.heap.size + 1 + 1) (by omega) (M.cells (k1 m))
  clear B1 B2 B3
  generalize V.setRow (w.heap.size + 1 + 1) (M.cells (k1 m)) = V1 at *
  have c0 := b1.cs.c0
  have d0 := b3.cs.c0
  have f0 := b3.frozen 0
  have B1 := Lib.hid b1
  have B2 := Lib.hid b2
  have B3 := Lib.hid b3
  clear b1 b2 b3
  go_upto_region 33 with fail
  have b3 := B3.out.set (i := 0) (v := .int .i64 m.kind) (m' := { k1 m with kind := m.kind }) rfl
  have b2 := B2.out.off (p := ⟨w.heap.size + 1 + 1, 0, none⟩) (by simp) (.int .i64 m.kind)
  have bel := bel.setCell (p := ⟨w.heap.size + 1 + 1, 0, none⟩) (by simp; omega) (.int .i64 m.kind)
  clear B1 B2 B3 c0 d0 f0
  generalize V1.setCell ⟨w.heap.size + 1 + 1, 0, none⟩ (.int .i64 m.kind) = V2 at *
  have B2 := Lib.hid b2
  have B3 := Lib.hid b3
  clear b2 b3
  go_wp2_with (first | (refine wpList_loadM (b := w.heap.size + 1 + 1) (m := { k1 m with kind := m.kind }) rfl _ rfl rfl B3.out ?_) | (refine wpList_storeM (b := w.heap.size + 1) (m' := { k1 m with kind := m.kind }) rfl _ _ rfl rfl rfl B2.out ?_))
  exact bodyPost_ret (v := .tuple #[.agg (M.cells { k1 m with kind := m.kind }), .bool true]) (results_pair (p := 2) (q := 3) (ty := 31) rfl _ _ (w.heap.size + 1) _ rfl (loadVarM (B2.out.put (m' := { k1 m with kind := m.kind }))) (.bool true) rfl) rfl ⟨rfl, below_setRow bel (by omega) _⟩

set_option maxHeartbeats 6400000 in
set_option maxRecDepth 100000 in
theorem own_2 (m : M) (w : World) (hk : m.kind = 2) :
    Calls Tryz.prog 35 #[.agg m.cells] w fun e w' => e = .returned (.tuple #[.agg (M.cells { k2 m with kind := m.kind }), .bool true]) ∧ Below w.heap.size w w' := by
  obtain ⟨b1, b2, b3, bel⟩ := start3 w m
  go_enter Tryz.func35, Tryz.ntmps35
  go_upto_region 2 with fail
  change Code.wp _ _ _ _ (((w.alloc (.cells m.cells 31)).alloc (.cells M.zero.cells 31)).alloc (.cells M.zero.cells 31))
  generalize ((w.alloc (.cells m.cells 31)).alloc (.cells M.zero.cells 31)).alloc (.cells M.zero.cells 31) = V at *
  obtain ⟨c0, c1, c2, c3, c4, c5, c6, c7, c8, c9, c10, c11, c12, c13, c14, c15, c16, c17, c18, c19, c20, c21, c22, c23, c24⟩ := b1.cs
  clear c2 c3 c4 c5 c11 c12 c13 c14 c15 c16 c17 c18 c19 c20 c21 c22 c23 c24
  rw [hk] at c0
  have HK := Lib.hid hk
  have B1 := Lib.hid b1
  have B2 := Lib.hid b2
  have B3 := Lib.hid b3
  clear hk b1 b2 b3
  go_upto_region 32 with (first | (refine wpList_built rfl 31 _ rfl (M.cells (k2 m)) (by kernel_rfl) ?_) | (refine wpList_storeM (b := w.heap.size + 1 + 1) (m' := k2 m) rfl _ _ rfl rfl rfl B3.out ?_))
  clear c0 c1 c6 c7 c8 c9 c10
  have b3 := B3.out.put (m' := k2 m)
  have b2 := B2.out.row (g := w.heap.size + 1 + 1) (by omega) (M.cells (k2 m))
  have b1 := B1.out.row (g := w.heap.size + 1 + 1) (by omega) (M.cells (k2 m))
  have bel := below_setRow bel (g := w.heap.size + 1 + 1) (by omega) (M.cells (k2 m))
  clear B1 B2 B3
  generalize V.setRow (w.heap.size + 1 + 1) (M.cells (k2 m)) = V1 at *
  have c0 := b1.cs.c0
  have d0 := b3.cs.c0
  have f0 := b3.frozen 0
  have B1 := Lib.hid b1
  have B2 := Lib.hid b2
  have B3 := Lib.hid b3
  clear b1 b2 b3
  go_upto_region 33 with fail
  have b3 := B3.out.set (i := 0) (v := .int .i64 m.kind) (m' := { k2 m with kind := m.kind }) rfl
  have b2 := B2.out.off (p := ⟨w.heap.size + 1 + 1, 0, none⟩) (by simp) (.int .i64 m.kind)
  have bel := bel.setCell (p := ⟨w.heap.size + 1 + 1, 0, none⟩) (by simp; omega) (.int .i64 m.kind)
  clear B1 B2 B3 c0 d0 f0
  generalize V1.setCell ⟨w.heap.size + 1 + 1, 0, none⟩ (.int .i64 m.kind) = V2 at *
  have B2 := Lib.hid b2
  have B3 := Lib.hid b3
  clear b2 b3
  go_wp2_with (first | (refine wpList_loadM (b := w.heap.size + 1 + 1) (m := { k2 m with kind := m.kind }) rfl _ rfl rfl B3.out ?_) | (refine wpList_storeM (b := w.heap.size + 1) (m' := { k2 m with kind := m.kind }) rfl _ _ rfl rfl rfl B2.out ?_))
  exact bodyPost_ret (v := .tuple #[.agg (M.cells { k2 m with kind := m.kind }), .bool true]) (results_pair (p := 2) (q := 3) (ty := 31) rfl _ _ (w.heap.size + 1) _ rfl (loadVarM (B2.out.put (m' := { k2 m with kind := m.kind }))) (.bool true) rfl) rfl ⟨rfl, below_setRow bel (by omega) _⟩

set_option maxHeartbeats 6400000 in
set_option maxRecDepth 100000 in
theorem own_3 (m : M) (w : World) (hk : m.kind = 3) :
    Calls Tryz.prog 35 #[.agg m.cells] w fun e w' => e = .returned (.tuple #[.agg (M.cells { k3 m with kind := m.kind }), .bool true]) ∧ Below w.heap.size w w' := by
  obtain ⟨b1, b2, b3, bel⟩ := start3 w m
  go_enter Tryz.func35, Tryz.ntmps35
  go_upto_region 2 with fail
  change Code.wp _ _ _ _ (((w.alloc (.cells m.cells 31)).alloc (.cells M.zero.cells 31)).alloc (.cells M.zero.cells 31))
  generalize ((w.alloc (.cells m.cells 31)).alloc (.cells M.zero.cells 31)).alloc (.cells M.zero.cells 31) = V at *
  obtain ⟨c0, c1, c2, c3, c4, c5, c6, c7, c8, c9, c10, c11, c12, c13, c14, c15, c16, c17, c18, c19, c20, c21, c22, c23, c24⟩ := b1.cs
  clear c1 c2 c3 c4 c5 c6 c7 c8 c9 c10 c11 c14 c18 c21 c22 c23
  rw [hk] at c0
  have HK := Lib.hid hk
  have B1 := Lib.hid b1
  have B2 := Lib.hid b2
  have B3 := Lib.hid b3
  clear hk b1 b2 b3
  go_upto_region 32 with (first | (refine wpList_built rfl 31 _ rfl (M.cells (k3 m)) (by kernel_rfl) ?_) | (refine wpList_storeM (b := w.heap.size + 1 + 1) (m' := k3 m) rfl _ _ rfl rfl rfl B3.out ?_))
  clear c0 c12 c13 c15 c16 c17 c19 c20 c24
  have b3 := B3.out.put (m' := k3 m)
  have b2 := B2.out.row (g := w.heap.size + 1 + 1) (by omega) (M.cells (k3 m))
  have b1 := B1.out.row (g := w.heap.size + 1 + 1) (by omega) (M.cells (k3 m))
  have bel := below_setRow bel (g := w.heap.size + 1 + 1) (by omega) (M.cells (k3 m))
  clear B1 B2 B3
  generalize V.setRow (w.heap.size + 1 + 1) (M.cells (k3 m)) = V1 at *
  have c0 := b1.cs.c0
  have d0 := b3.cs.c0
  have f0 := b3.frozen 0
  have B1 := Lib.hid b1
  have B2 := Lib.hid b2
  have B3 := Lib.hid b3
  clear b1 b2 b3
  go_upto_region 33 with fail
  have b3 := B3.out.set (i := 0) (v := .int .i64 m.kind) (m' := { k3 m with kind := m.kind }) rfl
  have b2 := B2.out.off (p := ⟨w.heap.size + 1 + 1, 0, none⟩) (by simp) (.int .i64 m.kind)
  have bel := bel.setCell (p := ⟨w.heap.size + 1 + 1, 0, none⟩) (by simp; omega) (.int .i64 m.kind)
  clear B1 B2 B3 c0 d0 f0
  generalize V1.setCell ⟨w.heap.size + 1 + 1, 0, none⟩ (.int .i64 m.kind) = V2 at *
  have B2 := Lib.hid b2
  have B3 := Lib.hid b3
  clear b2 b3
  go_wp2_with (first | (refine wpList_loadM (b := w.heap.size + 1 + 1) (m := { k3 m with kind := m.kind }) rfl _ rfl rfl B3.out ?_) | (refine wpList_storeM (b := w.heap.size + 1) (m' := { k3 m with kind := m.kind }) rfl _ _ rfl rfl rfl B2.out ?_))
  exact bodyPost_ret (v := .tuple #[.agg (M.cells { k3 m with kind := m.kind }), .bool true]) (results_pair (p := 2) (q := 3) (ty := 31) rfl _ _ (w.heap.size + 1) _ rfl (loadVarM (B2.out.put (m' := { k3 m with kind := m.kind }))) (.bool true) rfl) rfl ⟨rfl, below_setRow bel (by omega) _⟩

set_option maxHeartbeats 6400000 in
set_option maxRecDepth 100000 in
theorem own_4 (m : M) (w : World) (hk : m.kind = 4) :
    Calls Tryz.prog 35 #[.agg m.cells] w fun e w' => e = .returned (.tuple #[.agg (M.cells { k4 m with kind := m.kind }), .bool true]) ∧ Below w.heap.size w w' := by
  obtain ⟨b1, b2, b3, bel⟩ := start3 w m
  go_enter Tryz.func35, Tryz.ntmps35
  go_upto_region 2 with fail
  change Code.wp _ _ _ _ (((w.alloc (.cells m.cells 31)).alloc (.cells M.zero.cells 31)).alloc (.cells M.zero.cells 31))
  generalize ((w.alloc (.cells m.cells 31)).alloc (.cells M.zero.cells 31)).alloc (.cells M.zero.cells 31) = V at *
  obtain ⟨c0, c1, c2, c3, c4, c5, c6, c7, c8, c9, c10, c11, c12, c13, c14, c15, c16, c17, c18, c19, c20, c21, c22, c23, c24⟩ := b1.cs
  clear c1 c2 c3 c4 c5 c6 c8 c9 c10 c11 c13 c17 c18 c21 c22 c23
  rw [hk] at c0
  have HK := Lib.hid hk
  have B1 := Lib.hid b1
  have B2 := Lib.hid b2
  have B3 := Lib.hid b3
  clear hk b1 b2 b3
  go_upto_region 32 with (first | (refine wpList_built rfl 31 _ rfl (M.cells (k4 m)) (by kernel_rfl) ?_) | (refine wpList_storeM (b := w.heap.size + 1 + 1) (m' := k4 m) rfl _ _ rfl rfl rfl B3.out ?_))
  clear c0 c7 c12 c14 c15 c16 c19 c20 c24
  have b3 := B3.out.put (m' := k4 m)
  have b2 := B2.out.row (g := w.heap.size + 1 + 1) (by omega) (M.cells (k4 m))
  have b1 := B1.out.row (g := w.heap.size + 1 + 1) (by omega) (M.cells (k4 m))
  have bel := below_setRow bel (g := w.heap.size + 1 + 1) (by omega) (M.cells (k4 m))
  clear B1 B2 B3
  generalize V.setRow (w.heap.size + 1 + 1) (M.cells (k4 m)) = V1 at *
  have c0 := b1.cs.c0
  have d0 := b3.cs.c0
  have f0 := b3.frozen 0
  have B1 := Lib.hid b1
  have B2 := Lib.hid b2
  have B3 := Lib.hid b3
  clear b1 b2 b3
  go_upto_region 33 with fail
  have b3 := B3.out.set (i := 0) (v := .int .i64 m.kind) (m' := { k4 m with kind := m.kind }) rfl
  have b2 := B2.out.off (p := ⟨w.heap.size + 1 + 1, 0, none⟩) (by simp) (.int .i64 m.kind)
  have bel := bel.setCell (p := ⟨w.heap.size + 1 + 1, 0, none⟩) (by simp; omega) (.int .i64 m.kind)
  clear B1 B2 B3 c0 d0 f0
  generalize V1.setCell ⟨w.heap.size + 1 + 1, 0, none⟩ (.int .i64 m.kind) = V2 at *
  have B2 := Lib.hid b2
  have B3 := Lib.hid b3
  clear b2 b3
  go_wp2_with (first | (refine wpList_loadM (b := w.heap.size + 1 + 1) (m := { k4 m with kind := m.kind }) rfl _ rfl rfl B3.out ?_) | (refine wpList_storeM (b := w.heap.size + 1) (m' := { k4 m with kind := m.kind }) rfl _ _ rfl rfl rfl B2.out ?_))
  exact bodyPost_ret (v := .tuple #[.agg (M.cells { k4 m with kind := m.kind }), .bool true]) (results_pair (p := 2) (q := 3) (ty := 31) rfl _ _ (w.heap.size + 1) _ rfl (loadVarM (B2.out.put (m' := { k4 m with kind := m.kind }))) (.bool true) rfl) rfl ⟨rfl, below_setRow bel (by omega) _⟩

end Go.Proofs.YteecialdkfaejaaGreatDoor.Own
namespace Go.Proofs.YteecialdkfaejaaGreatDoor.Own
open Go.ChangeShapes Go.WideShapes Go.ChangeAt Go.RowKit
open Go.Proofs.YteecialdkfaejaaGreatDoor.Ms
open Go.Proofs.YteecialdkfaejaaGreatDoor.Box
open Go.Proofs.YteecialdkfaejaaGreatDoor.Same
open Go.Proofs.YteecialdkfaejaaGreatDoor.Or
set_option linter.unusedVariables false
set_option maxRecDepth 100000

set_option maxHeartbeats 6400000 in
set_option maxRecDepth 100000 in
theorem own_5 (m : M) (w : World) (hk : m.kind = 5) :
    Calls Tryz.prog 35 #[.agg m.cells] w fun e w' => e = .returned (.tuple #[.agg (M.cells { k5 m with kind := m.kind }), .bool true]) ∧ Below w.heap.size w w' := by
  obtain ⟨b1, b2, b3, bel⟩ := start3 w m
  go_enter Tryz.func35, Tryz.ntmps35
  go_upto_region 2 with fail
  change Code.wp _ _ _ _ (((w.alloc (.cells m.cells 31)).alloc (.cells M.zero.cells 31)).alloc (.cells M.zero.cells 31))
  generalize ((w.alloc (.cells m.cells 31)).alloc (.cells M.zero.cells 31)).alloc (.cells M.zero.cells 31) = V at *
  obtain ⟨c0, c1, c2, c3, c4, c5, c6, c7, c8, c9, c10, c11, c12, c13, c14, c15, c16, c17, c18, c19, c20, c21, c22, c23, c24⟩ := b1.cs
  clear c1 c2 c3 c4 c5 c6 c7 c8 c9 c10 c11 c12 c13 c14 c16 c17 c18 c19 c20 c22 c23
  rw [hk] at c0
  have HK := Lib.hid hk
  have B1 := Lib.hid b1
  have B2 := Lib.hid b2
  have B3 := Lib.hid b3
  clear hk b1 b2 b3
  go_upto_region 32 with (first | (refine wpList_built rfl 31 _ rfl (M.cells (k5 m)) (by kernel_rfl) ?_) | (refine wpList_storeM (b := w.heap.size + 1 + 1) (m' := k5 m) rfl _ _ rfl rfl rfl B3.out ?_))
  clear c0 c15 c21 c24
  have b3 := B3.out.put (m' := k5 m)
  have b2 := B2.out.row (g := w.heap.size + 1 + 1) (by omega) (M.cells (k5 m))
  have b1 := B1.out.row (g := w.heap.size + 1 + 1) (by omega) (M.cells (k5 m))
  have bel := below_setRow bel (g := w.heap.size + 1 + 1) (by omega) (M.cells (k5 m))
  clear B1 B2 B3
  generalize V.setRow (w.heap.size + 1 + 1) (M.cells (k5 m)) = V1 at *
  have c0 := b1.cs.c0
  have d0 := b3.cs.c0
  have f0 := b3.frozen 0
  have B1 := Lib.hid b1
  have B2 := Lib.hid b2
  have B3 := Lib.hid b3
  clear b1 b2 b3
  go_upto_region 33 with fail
  have b3 := B3.out.set (i := 0) (v := .int .i64 m.kind) (m' := { k5 m with kind := m.kind }) rfl
  have b2 := B2.out.off (p := ⟨w.heap.size + 1 + 1, 0, none⟩) (by simp) (.int .i64 m.kind)
  have bel := bel.setCell (p := ⟨w.heap.size + 1 + 1, 0, none⟩) (by simp; omega) (.int .i64 m.kind)
  clear B1 B2 B3 c0 d0 f0
  generalize V1.setCell ⟨w.heap.size + 1 + 1, 0, none⟩ (.int .i64 m.kind) = V2 at *
  have B2 := Lib.hid b2
  have B3 := Lib.hid b3
  clear b2 b3
  go_wp2_with (first | (refine wpList_loadM (b := w.heap.size + 1 + 1) (m := { k5 m with kind := m.kind }) rfl _ rfl rfl B3.out ?_) | (refine wpList_storeM (b := w.heap.size + 1) (m' := { k5 m with kind := m.kind }) rfl _ _ rfl rfl rfl B2.out ?_))
  exact bodyPost_ret (v := .tuple #[.agg (M.cells { k5 m with kind := m.kind }), .bool true]) (results_pair (p := 2) (q := 3) (ty := 31) rfl _ _ (w.heap.size + 1) _ rfl (loadVarM (B2.out.put (m' := { k5 m with kind := m.kind }))) (.bool true) rfl) rfl ⟨rfl, below_setRow bel (by omega) _⟩

set_option maxHeartbeats 6400000 in
set_option maxRecDepth 100000 in
theorem own_6 (m : M) (w : World) (hk : m.kind = 6) :
    Calls Tryz.prog 35 #[.agg m.cells] w fun e w' => e = .returned (.tuple #[.agg (M.cells { k6 m with kind := m.kind }), .bool true]) ∧ Below w.heap.size w w' := by
  obtain ⟨b1, b2, b3, bel⟩ := start3 w m
  go_enter Tryz.func35, Tryz.ntmps35
  go_upto_region 2 with fail
  change Code.wp _ _ _ _ (((w.alloc (.cells m.cells 31)).alloc (.cells M.zero.cells 31)).alloc (.cells M.zero.cells 31))
  generalize ((w.alloc (.cells m.cells 31)).alloc (.cells M.zero.cells 31)).alloc (.cells M.zero.cells 31) = V at *
  obtain ⟨c0, c1, c2, c3, c4, c5, c6, c7, c8, c9, c10, c11, c12, c13, c14, c15, c16, c17, c18, c19, c20, c21, c22, c23, c24⟩ := b1.cs
  clear c1 c2 c3 c4 c5 c6 c7 c8 c9 c10 c11 c12 c13 c14 c15 c16 c17 c18 c19 c20 c21 c22 c23
  rw [hk] at c0
  have HK := Lib.hid hk
  have B1 := Lib.hid b1
  have B2 := Lib.hid b2
  have B3 := Lib.hid b3
  clear hk b1 b2 b3
  go_upto_region 32 with (first | (refine wpList_built rfl 31 _ rfl (M.cells (k6 m)) (by kernel_rfl) ?_) | (refine wpList_storeM (b := w.heap.size + 1 + 1) (m' := k6 m) rfl _ _ rfl rfl rfl B3.out ?_))
  clear c0 c24
  have b3 := B3.out.put (m' := k6 m)
  have b2 := B2.out.row (g := w.heap.size + 1 + 1) (by omega) (M.cells (k6 m))
  have b1 := B1.out.row (g := w.heap.size + 1 + 1) (by omega) (M.cells (k6 m))
  have bel := below_setRow bel (g := w.heap.size + 1 + 1) (by omega) (M.cells (k6 m))
  clear B1 B2 B3
  generalize V.setRow (w.heap.size + 1 + 1) (M.cells (k6 m)) = V1 at *
  have c0 := b1.cs.c0
  have d0 := b3.cs.c0
  have f0 := b3.frozen 0
  have B1 := Lib.hid b1
  have B2 := Lib.hid b2
  have B3 := Lib.hid b3
  clear b1 b2 b3
  go_upto_region 33 with fail
  have b3 := B3.out.set (i := 0) (v := .int .i64 m.kind) (m' := { k6 m with kind := m.kind }) rfl
  have b2 := B2.out.off (p := ⟨w.heap.size + 1 + 1, 0, none⟩) (by simp) (.int .i64 m.kind)
  have bel := bel.setCell (p := ⟨w.heap.size + 1 + 1, 0, none⟩) (by simp; omega) (.int .i64 m.kind)
  clear B1 B2 B3 c0 d0 f0
  generalize V1.setCell ⟨w.heap.size + 1 + 1, 0, none⟩ (.int .i64 m.kind) = V2 at *
  have B2 := Lib.hid b2
  have B3 := Lib.hid b3
  clear b2 b3
  go_wp2_with (first | (refine wpList_loadM (b := w.heap.size + 1 + 1) (m := { k6 m with kind := m.kind }) rfl _ rfl rfl B3.out ?_) | (refine wpList_storeM (b := w.heap.size + 1) (m' := { k6 m with kind := m.kind }) rfl _ _ rfl rfl rfl B2.out ?_))
  exact bodyPost_ret (v := .tuple #[.agg (M.cells { k6 m with kind := m.kind }), .bool true]) (results_pair (p := 2) (q := 3) (ty := 31) rfl _ _ (w.heap.size + 1) _ rfl (loadVarM (B2.out.put (m' := { k6 m with kind := m.kind }))) (.bool true) rfl) rfl ⟨rfl, below_setRow bel (by omega) _⟩

set_option maxHeartbeats 6400000 in
set_option maxRecDepth 100000 in
theorem own_7 (m : M) (w : World) (hk : m.kind = 7) :
    Calls Tryz.prog 35 #[.agg m.cells] w fun e w' => e = .returned (.tuple #[.agg (M.cells { k7 m with kind := m.kind }), .bool true]) ∧ Below w.heap.size w w' := by
  obtain ⟨b1, b2, b3, bel⟩ := start3 w m
  go_enter Tryz.func35, Tryz.ntmps35
  go_upto_region 2 with fail
  change Code.wp _ _ _ _ (((w.alloc (.cells m.cells 31)).alloc (.cells M.zero.cells 31)).alloc (.cells M.zero.cells 31))
  generalize ((w.alloc (.cells m.cells 31)).alloc (.cells M.zero.cells 31)).alloc (.cells M.zero.cells 31) = V at *
  obtain ⟨c0, c1, c2, c3, c4, c5, c6, c7, c8, c9, c10, c11, c12, c13, c14, c15, c16, c17, c18, c19, c20, c21, c22, c23, c24⟩ := b1.cs
  clear c1 c2 c3 c4 c5 c6 c7 c8 c9 c10 c11 c12 c13 c15 c16 c18 c19 c20 c21 c22 c23
  rw [hk] at c0
  have HK := Lib.hid hk
  have B1 := Lib.hid b1
  have B2 := Lib.hid b2
  have B3 := Lib.hid b3
  clear hk b1 b2 b3
  go_upto_region 32 with (first | (refine wpList_built rfl 31 _ rfl (M.cells (k7 m)) (by kernel_rfl) ?_) | (refine wpList_storeM (b := w.heap.size + 1 + 1) (m' := k7 m) rfl _ _ rfl rfl rfl B3.out ?_))
  clear c0 c14 c17 c24
  have b3 := B3.out.put (m' := k7 m)
  have b2 := B2.out.row (g := w.heap.size + 1 + 1) (by omega) (M.cells (k7 m))
  have b1 := B1.out.row (g := w.heap.size + 1 + 1) (by omega) (M.cells (k7 m))
  have bel := below_setRow bel (g := w.heap.size + 1 + 1) (by omega) (M.cells (k7 m))
  clear B1 B2 B3
  generalize V.setRow (w.heap.size + 1 + 1) (M.cells (k7 m)) = V1 at *
  have c0 := b1.cs.c0
  have d0 := b3.cs.c0
  have f0 := b3.frozen 0
  have B1 := Lib.hid b1
  have B2 := Lib.hid b2
  have B3 := Lib.hid b3
  clear b1 b2 b3
  go_upto_region 33 with fail
  have b3 := B3.out.set (i := 0) (v := .int .i64 m.kind) (m' := { k7 m with kind := m.kind }) rfl
  have b2 := B2.out.off (p := ⟨w.heap.size + 1 + 1, 0, none⟩) (by simp) (.int .i64 m.kind)
  have bel := bel.setCell (p := ⟨w.heap.size + 1 + 1, 0, none⟩) (by simp; omega) (.int .i64 m.kind)
  clear B1 B2 B3 c0 d0 f0
  generalize V1.setCell ⟨w.heap.size + 1 + 1, 0, none⟩ (.int .i64 m.kind) = V2 at *
  have B2 := Lib.hid b2
  have B3 := Lib.hid b3
  clear b2 b3
  go_wp2_with (first | (refine wpList_loadM (b := w.heap.size + 1 + 1) (m := { k7 m with kind := m.kind }) rfl _ rfl rfl B3.out ?_) | (refine wpList_storeM (b := w.heap.size + 1) (m' := { k7 m with kind := m.kind }) rfl _ _ rfl rfl rfl B2.out ?_))
  exact bodyPost_ret (v := .tuple #[.agg (M.cells { k7 m with kind := m.kind }), .bool true]) (results_pair (p := 2) (q := 3) (ty := 31) rfl _ _ (w.heap.size + 1) _ rfl (loadVarM (B2.out.put (m' := { k7 m with kind := m.kind }))) (.bool true) rfl) rfl ⟨rfl, below_setRow bel (by omega) _⟩

set_option maxHeartbeats 6400000 in
set_option maxRecDepth 100000 in
theorem own_8 (m : M) (w : World) (hk : m.kind = 8) :
    Calls Tryz.prog 35 #[.agg m.cells] w fun e w' => e = .returned (.tuple #[.agg (M.cells { k8 m with kind := m.kind }), .bool true]) ∧ Below w.heap.size w w' := by
  obtain ⟨b1, b2, b3, bel⟩ := start3 w m
  go_enter Tryz.func35, Tryz.ntmps35
  go_upto_region 2 with fail
  change Code.wp _ _ _ _ (((w.alloc (.cells m.cells 31)).alloc (.cells M.zero.cells 31)).alloc (.cells M.zero.cells 31))
  generalize ((w.alloc (.cells m.cells 31)).alloc (.cells M.zero.cells 31)).alloc (.cells M.zero.cells 31) = V at *
  obtain ⟨c0, c1, c2, c3, c4, c5, c6, c7, c8, c9, c10, c11, c12, c13, c14, c15, c16, c17, c18, c19, c20, c21, c22, c23, c24⟩ := b1.cs
  clear c1 c2 c3 c4 c5 c6 c7 c8 c9 c10 c11 c12 c13 c14 c15 c16 c18 c19 c20 c21 c22 c23
  rw [hk] at c0
  have HK := Lib.hid hk
  have B1 := Lib.hid b1
  have B2 := Lib.hid b2
  have B3 := Lib.hid b3
  clear hk b1 b2 b3
  go_upto_region 32 with (first | (refine wpList_built rfl 31 _ rfl (M.cells (k8 m)) (by kernel_rfl) ?_) | (refine wpList_storeM (b := w.heap.size + 1 + 1) (m' := k8 m) rfl _ _ rfl rfl rfl B3.out ?_))
  clear c0 c17 c24
  have b3 := B3.out.put (m' := k8 m)
  have b2 := B2.out.row (g := w.heap.size + 1 + 1) (by omega) (M.cells (k8 m))
  have b1 := B1.out.row (g := w.heap.size + 1 + 1) (by omega) (M.cells (k8 m))
  have bel := below_setRow bel (g := w.heap.size + 1 + 1) (by omega) (M.cells (k8 m))
  clear B1 B2 B3
  generalize V.setRow (w.heap.size + 1 + 1) (M.cells (k8 m)) = V1 at *
  have c0 := b1.cs.c0
  have d0 := b3.cs.c0
  have f0 := b3.frozen 0
  have B1 := Lib.hid b1
  have B2 := Lib.hid b2
  have B3 := Lib.hid b3
  clear b1 b2 b3
  go_upto_region 33 with fail
  have b3 := B3.out.set (i := 0) (v := .int .i64 m.kind) (m' := { k8 m with kind := m.kind }) rfl
  have b2 := B2.out.off (p := ⟨w.heap.size + 1 + 1, 0, none⟩) (by simp) (.int .i64 m.kind)
  have bel := bel.setCell (p := ⟨w.heap.size + 1 + 1, 0, none⟩) (by simp; omega) (.int .i64 m.kind)
  clear B1 B2 B3 c0 d0 f0
  generalize V1.setCell ⟨w.heap.size + 1 + 1, 0, none⟩ (.int .i64 m.kind) = V2 at *
  have B2 := Lib.hid b2
  have B3 := Lib.hid b3
  clear b2 b3
  go_wp2_with (first | (refine wpList_loadM (b := w.heap.size + 1 + 1) (m := { k8 m with kind := m.kind }) rfl _ rfl rfl B3.out ?_) | (refine wpList_storeM (b := w.heap.size + 1) (m' := { k8 m with kind := m.kind }) rfl _ _ rfl rfl rfl B2.out ?_))
  exact bodyPost_ret (v := .tuple #[.agg (M.cells { k8 m with kind := m.kind }), .bool true]) (results_pair (p := 2) (q := 3) (ty := 31) rfl _ _ (w.heap.size + 1) _ rfl (loadVarM (B2.out.put (m' := { k8 m with kind := m.kind }))) (.bool true) rfl) rfl ⟨rfl, below_setRow bel (by omega) _⟩

set_option maxHeartbeats 6400000 in
set_option maxRecDepth 100000 in
theorem own_9 (m : M) (w : World) (hk : m.kind = 9) :
    Calls Tryz.prog 35 #[.agg m.cells] w fun e w' => e = .returned (.tuple #[.agg (M.cells { k9 m with kind := m.kind }), .bool true]) ∧ Below w.heap.size w w' := by
  obtain ⟨b1, b2, b3, bel⟩ := start3 w m
  go_enter Tryz.func35, Tryz.ntmps35
  go_upto_region 2 with fail
  change Code.wp _ _ _ _ (((w.alloc (.cells m.cells 31)).alloc (.cells M.zero.cells 31)).alloc (.cells M.zero.cells 31))
  generalize ((w.alloc (.cells m.cells 31)).alloc (.cells M.zero.cells 31)).alloc (.cells M.zero.cells 31) = V at *
  obtain ⟨c0, c1, c2, c3, c4, c5, c6, c7, c8, c9, c10, c11, c12, c13, c14, c15, c16, c17, c18, c19, c20, c21, c22, c23, c24⟩ := b1.cs
  clear c1 c2 c3 c4 c5 c6 c7 c8 c9 c10 c11 c13 c16 c17 c18 c19 c20 c21 c22 c23
  rw [hk] at c0
  have HK := Lib.hid hk
  have B1 := Lib.hid b1
  have B2 := Lib.hid b2
  have B3 := Lib.hid b3
  clear hk b1 b2 b3
  go_upto_region 32 with (first | (refine wpList_built rfl 31 _ rfl (M.cells (k9 m)) (by kernel_rfl) ?_) | (refine wpList_storeM (b := w.heap.size + 1 + 1) (m' := k9 m) rfl _ _ rfl rfl rfl B3.out ?_))
  clear c0 c12 c14 c15 c24
  have b3 := B3.out.put (m' := k9 m)
  have b2 := B2.out.row (g := w.heap.size + 1 + 1) (by omega) (M.cells (k9 m))
  have b1 := B1.out.row (g := w.heap.size + 1 + 1) (by omega) (M.cells (k9 m))
  have bel := below_setRow bel (g := w.heap.size + 1 + 1) (by omega) (M.cells (k9 m))
  clear B1 B2 B3
  generalize V.setRow (w.heap.size + 1 + 1) (M.cells (k9 m)) = V1 at *
  have c0 := b1.cs.c0
  have d0 := b3.cs.c0
  have f0 := b3.frozen 0
  have B1 := Lib.hid b1
  have B2 := Lib.hid b2
  have B3 := Lib.hid b3
  clear b1 b2 b3
  go_upto_region 33 with fail
  have b3 := B3.out.set (i := 0) (v := .int .i64 m.kind) (m' := { k9 m with kind := m.kind }) rfl
  have b2 := B2.out.off (p := ⟨w.heap.size + 1 + 1, 0, none⟩) (by simp) (.int .i64 m.kind)
  have bel := bel.setCell (p := ⟨w.heap.size + 1 + 1, 0, none⟩) (by simp; omega) (.int .i64 m.kind)
  clear B1 B2 B3 c0 d0 f0
  generalize V1.setCell ⟨w.heap.size + 1 + 1, 0, none⟩ (.int .i64 m.kind) = V2 at *
  have B2 := Lib.hid b2
  have B3 := Lib.hid b3
  clear b2 b3
  go_wp2_with (first | (refine wpList_loadM (b := w.heap.size + 1 + 1) (m := { k9 m with kind := m.kind }) rfl _ rfl rfl B3.out ?_) | (refine wpList_storeM (b := w.heap.size + 1) (m' := { k9 m with kind := m.kind }) rfl _ _ rfl rfl rfl B2.out ?_))
  exact bodyPost_ret (v := .tuple #[.agg (M.cells { k9 m with kind := m.kind }), .bool true]) (results_pair (p := 2) (q := 3) (ty := 31) rfl _ _ (w.heap.size + 1) _ rfl (loadVarM (B2.out.put (m' := { k9 m with kind := m.kind }))) (.bool true) rfl) rfl ⟨rfl, below_setRow bel (by omega) _⟩

end Go.Proofs.YteecialdkfaejaaGreatDoor.Own
namespace Go.Proofs.YteecialdkfaejaaGreatDoor.Own
open Go.ChangeShapes Go.WideShapes Go.ChangeAt Go.RowKit
open Go.Proofs.YteecialdkfaejaaGreatDoor.Ms
open Go.Proofs.YteecialdkfaejaaGreatDoor.Box
open Go.Proofs.YteecialdkfaejaaGreatDoor.Same
open Go.Proofs.YteecialdkfaejaaGreatDoor.Or
set_option linter.unusedVariables false
set_option maxRecDepth 100000

set_option maxHeartbeats 6400000 in
set_option maxRecDepth 100000 in
theorem own_10 (m : M) (w : World) (hk : m.kind = 10) :
    Calls Tryz.prog 35 #[.agg m.cells] w fun e w' => e = .returned (.tuple #[.agg (M.cells { k10 m with kind := m.kind }), .bool true]) ∧ Below w.heap.size w w' := by
  obtain ⟨b1, b2, b3, bel⟩ := start3 w m
  go_enter Tryz.func35, Tryz.ntmps35
  go_upto_region 2 with fail
  change Code.wp _ _ _ _ (((w.alloc (.cells m.cells 31)).alloc (.cells M.zero.cells 31)).alloc (.cells M.zero.cells 31))
  generalize ((w.alloc (.cells m.cells 31)).alloc (.cells M.zero.cells 31)).alloc (.cells M.zero.cells 31) = V at *
  obtain ⟨c0, c1, c2, c3, c4, c5, c6, c7, c8, c9, c10, c11, c12, c13, c14, c15, c16, c17, c18, c19, c20, c21, c22, c23, c24⟩ := b1.cs
  clear c1 c2 c3 c4 c6 c7 c8 c9 c10 c11 c12 c13 c15 c16 c17 c20 c21 c22 c23
  rw [hk] at c0
  have HK := Lib.hid hk
  have B1 := Lib.hid b1
  have B2 := Lib.hid b2
  have B3 := Lib.hid b3
  clear hk b1 b2 b3
  go_upto_region 32 with (first | (refine wpList_built rfl 31 _ rfl (M.cells (k10 m)) (by kernel_rfl) ?_) | (refine wpList_storeM (b := w.heap.size + 1 + 1) (m' := k10 m) rfl _ _ rfl rfl rfl B3.out ?_))
  clear c0 c5 c14 c18 c19 c24
  have b3 := B3.out.put (m' := k10 m)
  have b2 := B2.out.row (g := w.heap.size + 1 + 1) (by omega) (M.cells (k10 m))
  have b1 := B1.out.row (g := w.heap.size + 1 + 1) (by omega) (M.cells (k10 m))
  have bel := below_setRow bel (g := w.heap.size + 1 + 1) (by omega) (M.cells (k10 m))
  clear B1 B2 B3
  generalize V.setRow (w.heap.size + 1 + 1) (M.cells (k10 m)) = V1 at *
  have c0 := b1.cs.c0
  have d0 := b3.cs.c0
  have f0 := b3.frozen 0
  have B1 := Lib.hid b1
  have B2 := Lib.hid b2
  have B3 := Lib.hid b3
  clear b1 b2 b3
  go_upto_region 33 with fail
  have b3 := B3.out.set (i := 0) (v := .int .i64 m.kind) (m' := { k10 m with kind := m.kind }) rfl
  have b2 := B2.out.off (p := ⟨w.heap.size + 1 + 1, 0, none⟩) (by simp) (.int .i64 m.kind)
  have bel := bel.setCell (p := ⟨w.heap.size + 1 + 1, 0, none⟩) (by simp; omega) (.int .i64 m.kind)
  clear B1 B2 B3 c0 d0 f0
  generalize V1.setCell ⟨w.heap.size + 1 + 1, 0, none⟩ (.int .i64 m.kind) = V2 at *
  have B2 := Lib.hid b2
  have B3 := Lib.hid b3
  clear b2 b3
  go_wp2_with (first | (refine wpList_loadM (b := w.heap.size + 1 + 1) (m := { k10 m with kind := m.kind }) rfl _ rfl rfl B3.out ?_) | (refine wpList_storeM (b := w.heap.size + 1) (m' := { k10 m with kind := m.kind }) rfl _ _ rfl rfl rfl B2.out ?_))
  exact bodyPost_ret (v := .tuple #[.agg (M.cells { k10 m with kind := m.kind }), .bool true]) (results_pair (p := 2) (q := 3) (ty := 31) rfl _ _ (w.heap.size + 1) _ rfl (loadVarM (B2.out.put (m' := { k10 m with kind := m.kind }))) (.bool true) rfl) rfl ⟨rfl, below_setRow bel (by omega) _⟩

set_option maxHeartbeats 6400000 in
set_option maxRecDepth 100000 in
theorem own_11 (m : M) (w : World) (hk : m.kind = 11) :
    Calls Tryz.prog 35 #[.agg m.cells] w fun e w' => e = .returned (.tuple #[.agg (M.cells { k11 m with kind := m.kind }), .bool true]) ∧ Below w.heap.size w w' := by
  obtain ⟨b1, b2, b3, bel⟩ := start3 w m
  go_enter Tryz.func35, Tryz.ntmps35
  go_upto_region 2 with fail
  change Code.wp _ _ _ _ (((w.alloc (.cells m.cells 31)).alloc (.cells M.zero.cells 31)).alloc (.cells M.zero.cells 31))
  generalize ((w.alloc (.cells m.cells 31)).alloc (.cells M.zero.cells 31)).alloc (.cells M.zero.cells 31) = V at *
  obtain ⟨c0, c1, c2, c3, c4, c5, c6, c7, c8, c9, c10, c11, c12, c13, c14, c15, c16, c17, c18, c19, c20, c21, c22, c23, c24⟩ := b1.cs
  clear c1 c2 c3 c4 c8 c13 c15 c16 c17 c18 c19 c20 c21 c22 c23
  rw [hk] at c0
  have HK := Lib.hid hk
  have B1 := Lib.hid b1
  have B2 := Lib.hid b2
  have B3 := Lib.hid b3
  clear hk b1 b2 b3
  go_upto_region 32 with (first | (refine wpList_built rfl 31 _ rfl (M.cells (k11 m)) (by kernel_rfl) ?_) | (refine wpList_storeM (b := w.heap.size + 1 + 1) (m' := k11 m) rfl _ _ rfl rfl rfl B3.out ?_))
  clear c0 c5 c6 c7 c9 c10 c11 c12 c14 c24
  have b3 := B3.out.put (m' := k11 m)
  have b2 := B2.out.row (g := w.heap.size + 1 + 1) (by omega) (M.cells (k11 m))
  have b1 := B1.out.row (g := w.heap.size + 1 + 1) (by omega) (M.cells (k11 m))
  have bel := below_setRow bel (g := w.heap.size + 1 + 1) (by omega) (M.cells (k11 m))
  clear B1 B2 B3
  generalize V.setRow (w.heap.size + 1 + 1) (M.cells (k11 m)) = V1 at *
  have c0 := b1.cs.c0
  have d0 := b3.cs.c0
  have f0 := b3.frozen 0
  have B1 := Lib.hid b1
  have B2 := Lib.hid b2
  have B3 := Lib.hid b3
  clear b1 b2 b3
  go_upto_region 33 with fail
  have b3 := B3.out.set (i := 0) (v := .int .i64 m.kind) (m' := { k11 m with kind := m.kind }) rfl
  have b2 := B2.out.off (p := ⟨w.heap.size + 1 + 1, 0, none⟩) (by simp) (.int .i64 m.kind)
  have bel := bel.setCell (p := ⟨w.heap.size + 1 + 1, 0, none⟩) (by simp; omega) (.int .i64 m.kind)
  clear B1 B2 B3 c0 d0 f0
  generalize V1.setCell ⟨w.heap.size + 1 + 1, 0, none⟩ (.int .i64 m.kind) = V2 at *
  have B2 := Lib.hid b2
  have B3 := Lib.hid b3
  clear b2 b3
  go_wp2_with (first | (refine wpList_loadM (b := w.heap.size + 1 + 1) (m := { k11 m with kind := m.kind }) rfl _ rfl rfl B3.out ?_) | (refine wpList_storeM (b := w.heap.size + 1) (m' := { k11 m with kind := m.kind }) rfl _ _ rfl rfl rfl B2.out ?_))
  exact bodyPost_ret (v := .tuple #[.agg (M.cells { k11 m with kind := m.kind }), .bool true]) (results_pair (p := 2) (q := 3) (ty := 31) rfl _ _ (w.heap.size + 1) _ rfl (loadVarM (B2.out.put (m' := { k11 m with kind := m.kind }))) (.bool true) rfl) rfl ⟨rfl, below_setRow bel (by omega) _⟩

set_option maxHeartbeats 6400000 in
set_option maxRecDepth 100000 in
theorem own_12 (m : M) (w : World) (hk : m.kind = 12) :
    Calls Tryz.prog 35 #[.agg m.cells] w fun e w' => e = .returned (.tuple #[.agg (M.cells { k12 m with kind := m.kind }), .bool true]) ∧ Below w.heap.size w w' := by
  obtain ⟨b1, b2, b3, bel⟩ := start3 w m
  go_enter Tryz.func35, Tryz.ntmps35
  go_upto_region 2 with fail
  change Code.wp _ _ _ _ (((w.alloc (.cells m.cells 31)).alloc (.cells M.zero.cells 31)).alloc (.cells M.zero.cells 31))
  generalize ((w.alloc (.cells m.cells 31)).alloc (.cells M.zero.cells 31)).alloc (.cells M.zero.cells 31) = V at *
  obtain ⟨c0, c1, c2, c3, c4, c5, c6, c7, c8, c9, c10, c11, c12, c13, c14, c15, c16, c17, c18, c19, c20, c21, c22, c23, c24⟩ := b1.cs
  clear c1 c2 c3 c4 c8 c9 c10 c11 c12 c13 c14 c15 c16 c17 c18 c19 c20 c21 c22 c23
  rw [hk] at c0
  have HK := Lib.hid hk
  have B1 := Lib.hid b1
  have B2 := Lib.hid b2
  have B3 := Lib.hid b3
  clear hk b1 b2 b3
  go_upto_region 32 with (first | (refine wpList_built rfl 31 _ rfl (M.cells (k12 m)) (by kernel_rfl) ?_) | (refine wpList_storeM (b := w.heap.size + 1 + 1) (m' := k12 m) rfl _ _ rfl rfl rfl B3.out ?_))
  clear c0 c5 c6 c7 c24
  have b3 := B3.out.put (m' := k12 m)
  have b2 := B2.out.row (g := w.heap.size + 1 + 1) (by omega) (M.cells (k12 m))
  have b1 := B1.out.row (g := w.heap.size + 1 + 1) (by omega) (M.cells (k12 m))
  have bel := below_setRow bel (g := w.heap.size + 1 + 1) (by omega) (M.cells (k12 m))
  clear B1 B2 B3
  generalize V.setRow (w.heap.size + 1 + 1) (M.cells (k12 m)) = V1 at *
  have c0 := b1.cs.c0
  have d0 := b3.cs.c0
  have f0 := b3.frozen 0
  have B1 := Lib.hid b1
  have B2 := Lib.hid b2
  have B3 := Lib.hid b3
  clear b1 b2 b3
  go_upto_region 33 with fail
  have b3 := B3.out.set (i := 0) (v := .int .i64 m.kind) (m' := { k12 m with kind := m.kind }) rfl
  have b2 := B2.out.off (p := ⟨w.heap.size + 1 + 1, 0, none⟩) (by simp) (.int .i64 m.kind)
  have bel := bel.setCell (p := ⟨w.heap.size + 1 + 1, 0, none⟩) (by simp; omega) (.int .i64 m.kind)
  clear B1 B2 B3 c0 d0 f0
  generalize V1.setCell ⟨w.heap.size + 1 + 1, 0, none⟩ (.int .i64 m.kind) = V2 at *
  have B2 := Lib.hid b2
  have B3 := Lib.hid b3
  clear b2 b3
  go_wp2_with (first | (refine wpList_loadM (b := w.heap.size + 1 + 1) (m := { k12 m with kind := m.kind }) rfl _ rfl rfl B3.out ?_) | (refine wpList_storeM (b := w.heap.size + 1) (m' := { k12 m with kind := m.kind }) rfl _ _ rfl rfl rfl B2.out ?_))
  exact bodyPost_ret (v := .tuple #[.agg (M.cells { k12 m with kind := m.kind }), .bool true]) (results_pair (p := 2) (q := 3) (ty := 31) rfl _ _ (w.heap.size + 1) _ rfl (loadVarM (B2.out.put (m' := { k12 m with kind := m.kind }))) (.bool true) rfl) rfl ⟨rfl, below_setRow bel (by omega) _⟩

end Go.Proofs.YteecialdkfaejaaGreatDoor.Own
namespace Go.Proofs.YteecialdkfaejaaGreatDoor.Own
open Go.ChangeShapes Go.WideShapes Go.ChangeAt Go.RowKit
open Go.Proofs.YteecialdkfaejaaGreatDoor.Ms
open Go.Proofs.YteecialdkfaejaaGreatDoor.Box
open Go.Proofs.YteecialdkfaejaaGreatDoor.Same
open Go.Proofs.YteecialdkfaejaaGreatDoor.Or
set_option linter.unusedVariables false
set_option maxRecDepth 100000

set_option maxHeartbeats 6400000 in
set_option maxRecDepth 100000 in
theorem own_13 (m : M) (w : World) (hk : m.kind = 13) :
    Calls Tryz.prog 35 #[.agg m.cells] w fun e w' => e = .returned (.tuple #[.agg (M.cells { k13 m with kind := m.kind }), .bool true]) ∧ Below w.heap.size w w' := by
  obtain ⟨b1, b2, b3, bel⟩ := start3 w m
  go_enter Tryz.func35, Tryz.ntmps35
  go_upto_region 2 with fail
  change Code.wp _ _ _ _ (((w.alloc (.cells m.cells 31)).alloc (.cells M.zero.cells 31)).alloc (.cells M.zero.cells 31))
  generalize ((w.alloc (.cells m.cells 31)).alloc (.cells M.zero.cells 31)).alloc (.cells M.zero.cells 31) = V at *
  obtain ⟨c0, c1, c2, c3, c4, c5, c6, c7, c8, c9, c10, c11, c12, c13, c14, c15, c16, c17, c18, c19, c20, c21, c22, c23, c24⟩ := b1.cs
  clear c1 c2 c3 c4 c8 c9 c10 c13 c14 c15 c17 c18 c19 c20 c21 c22 c23
  rw [hk] at c0
  have HK := Lib.hid hk
  have B1 := Lib.hid b1
  have B2 := Lib.hid b2
  have B3 := Lib.hid b3
  clear hk b1 b2 b3
  go_upto_region 32 with (first | (refine wpList_built rfl 31 _ rfl (M.cells (k13 m)) (by kernel_rfl) ?_) | (refine wpList_storeM (b := w.heap.size + 1 + 1) (m' := k13 m) rfl _ _ rfl rfl rfl B3.out ?_))
  clear c0 c5 c6 c7 c11 c12 c16 c24
  have b3 := B3.out.put (m' := k13 m)
  have b2 := B2.out.row (g := w.heap.size + 1 + 1) (by omega) (M.cells (k13 m))
  have b1 := B1.out.row (g := w.heap.size + 1 + 1) (by omega) (M.cells (k13 m))
  have bel := below_setRow bel (g := w.heap.size + 1 + 1) (by omega) (M.cells (k13 m))
  clear B1 B2 B3
  generalize V.setRow (w.heap.size + 1 + 1) (M.cells (k13 m)) = V1 at *
  have c0 := b1.cs.c0
  have d0 := b3.cs.c0
  have f0 := b3.frozen 0
  have B1 := Lib.hid b1
  have B2 := Lib.hid b2
  have B3 := Lib.hid b3
  clear b1 b2 b3
  go_upto_region 33 with fail
  have b3 := B3.out.set (i := 0) (v := .int .i64 m.kind) (m' := { k13 m with kind := m.kind }) rfl
  have b2 := B2.out.off (p := ⟨w.heap.size + 1 + 1, 0, none⟩) (by simp) (.int .i64 m.kind)
  have bel := bel.setCell (p := ⟨w.heap.size + 1 + 1, 0, none⟩) (by simp; omega) (.int .i64 m.kind)
  clear B1 B2 B3 c0 d0 f0
  generalize V1.setCell ⟨w.heap.size + 1 + 1, 0, none⟩ (.int .i64 m.kind) = V2 at *
  have B2 := Lib.hid b2
  have B3 := Lib.hid b3
  clear b2 b3
  go_wp2_with (first | (refine wpList_loadM (b := w.heap.size + 1 + 1) (m := { k13 m with kind := m.kind }) rfl _ rfl rfl B3.out ?_) | (refine wpList_storeM (b := w.heap.size + 1) (m' := { k13 m with kind := m.kind }) rfl _ _ rfl rfl rfl B2.out ?_))
  exact bodyPost_ret (v := .tuple #[.agg (M.cells { k13 m with kind := m.kind }), .bool true]) (results_pair (p := 2) (q := 3) (ty := 31) rfl _ _ (w.heap.size + 1) _ rfl (loadVarM (B2.out.put (m' := { k13 m with kind := m.kind }))) (.bool true) rfl) rfl ⟨rfl, below_setRow bel (by omega) _⟩

set_option maxHeartbeats 6400000 in
set_option maxRecDepth 100000 in
theorem own_14 (m : M) (w : World) (hk : m.kind = 14) :
    Calls Tryz.prog 35 #[.agg m.cells] w fun e w' => e = .returned (.tuple #[.agg (M.cells { k14 m with kind := m.kind }), .bool true]) ∧ Below w.heap.size w w' := by
  obtain ⟨b1, b2, b3, bel⟩ := start3 w m
  go_enter Tryz.func35, Tryz.ntmps35
  go_upto_region 2 with fail
  change Code.wp _ _ _ _ (((w.alloc (.cells m.cells 31)).alloc (.cells M.zero.cells 31)).alloc (.cells M.zero.cells 31))
  generalize ((w.alloc (.cells m.cells 31)).alloc (.cells M.zero.cells 31)).alloc (.cells M.zero.cells 31) = V at *
  obtain ⟨c0, c1, c2, c3, c4, c5, c6, c7, c8, c9, c10, c11, c12, c13, c14, c15, c16, c17, c18, c19, c20, c21, c22, c23, c24⟩ := b1.cs
  clear c1 c2 c3 c4 c5 c6 c7 c8 c9 c10 c11 c12 c13 c14 c15 c16 c17 c18 c19 c20 c21 c24
  rw [hk] at c0
  have HK := Lib.hid hk
  have B1 := Lib.hid b1
  have B2 := Lib.hid b2
  have B3 := Lib.hid b3
  clear hk b1 b2 b3
  go_upto_region 32 with (first | (refine wpList_built rfl 31 _ rfl (M.cells (k14 m)) (by kernel_rfl) ?_) | (refine wpList_storeM (b := w.heap.size + 1 + 1) (m' := k14 m) rfl _ _ rfl rfl rfl B3.out ?_))
  clear c0 c22 c23
  have b3 := B3.out.put (m' := k14 m)
  have b2 := B2.out.row (g := w.heap.size + 1 + 1) (by omega) (M.cells (k14 m))
  have b1 := B1.out.row (g := w.heap.size + 1 + 1) (by omega) (M.cells (k14 m))
  have bel := below_setRow bel (g := w.heap.size + 1 + 1) (by omega) (M.cells (k14 m))
  clear B1 B2 B3
  generalize V.setRow (w.heap.size + 1 + 1) (M.cells (k14 m)) = V1 at *
  have c0 := b1.cs.c0
  have d0 := b3.cs.c0
  have f0 := b3.frozen 0
  have B1 := Lib.hid b1
  have B2 := Lib.hid b2
  have B3 := Lib.hid b3
  clear b1 b2 b3
  go_upto_region 33 with fail
  have b3 := B3.out.set (i := 0) (v := .int .i64 m.kind) (m' := { k14 m with kind := m.kind }) rfl
  have b2 := B2.out.off (p := ⟨w.heap.size + 1 + 1, 0, none⟩) (by simp) (.int .i64 m.kind)
  have bel := bel.setCell (p := ⟨w.heap.size + 1 + 1, 0, none⟩) (by simp; omega) (.int .i64 m.kind)
  clear B1 B2 B3 c0 d0 f0
  generalize V1.setCell ⟨w.heap.size + 1 + 1, 0, none⟩ (.int .i64 m.kind) = V2 at *
  have B2 := Lib.hid b2
  have B3 := Lib.hid b3
  clear b2 b3
  go_wp2_with (first | (refine wpList_loadM (b := w.heap.size + 1 + 1) (m := { k14 m with kind := m.kind }) rfl _ rfl rfl B3.out ?_) | (refine wpList_storeM (b := w.heap.size + 1) (m' := { k14 m with kind := m.kind }) rfl _ _ rfl rfl rfl B2.out ?_))
  exact bodyPost_ret (v := .tuple #[.agg (M.cells { k14 m with kind := m.kind }), .bool true]) (results_pair (p := 2) (q := 3) (ty := 31) rfl _ _ (w.heap.size + 1) _ rfl (loadVarM (B2.out.put (m' := { k14 m with kind := m.kind }))) (.bool true) rfl) rfl ⟨rfl, below_setRow bel (by omega) _⟩

set_option maxHeartbeats 6400000 in
set_option maxRecDepth 100000 in
theorem own_low (m : M) (w : World) (hk : m.kind < 1) :
    Calls Tryz.prog 35 #[.agg m.cells] w fun e w' => e = .returned (.tuple #[.agg M.zero.cells, .bool false]) ∧ Below w.heap.size w w' := by
  obtain ⟨b1, b2, b3, bel⟩ := start3 w m
  go_enter Tryz.func35, Tryz.ntmps35
  go_upto_region 2 with fail
  change Code.wp _ _ _ _ (((w.alloc (.cells m.cells 31)).alloc (.cells M.zero.cells 31)).alloc (.cells M.zero.cells 31))
  generalize ((w.alloc (.cells m.cells 31)).alloc (.cells M.zero.cells 31)).alloc (.cells M.zero.cells 31) = V at *
  have c0 := b1.cs.c0
  have B2 := Lib.hid b2
  clear b1 b2 b3
  go_wp2_with (first | (refine wpList_built rfl 31 _ rfl M.zero.cells (by kernel_rfl) ?_) | (refine wpList_storeM (b := w.heap.size + 1) (m' := M.zero) rfl _ _ rfl rfl rfl B2.out ?_))
  exact bodyPost_ret (v := .tuple #[.agg M.zero.cells, .bool false]) (results_pair (p := 2) (q := 3) (ty := 31) rfl _ _ (w.heap.size + 1) _ rfl (loadVarM (B2.out.put (m' := M.zero))) (.bool false) rfl) rfl ⟨rfl, below_setRow bel (by omega) _⟩

set_option maxHeartbeats 6400000 in
set_option maxRecDepth 100000 in
theorem own_high (m : M) (w : World) (hk : 14 < m.kind) :
    Calls Tryz.prog 35 #[.agg m.cells] w fun e w' => e = .returned (.tuple #[.agg M.zero.cells, .bool false]) ∧ Below w.heap.size w w' := by
  obtain ⟨b1, b2, b3, bel⟩ := start3 w m
  go_enter Tryz.func35, Tryz.ntmps35
  go_upto_region 2 with fail
  change Code.wp _ _ _ _ (((w.alloc (.cells m.cells 31)).alloc (.cells M.zero.cells 31)).alloc (.cells M.zero.cells 31))
  generalize ((w.alloc (.cells m.cells 31)).alloc (.cells M.zero.cells 31)).alloc (.cells M.zero.cells 31) = V at *
  have c0 := b1.cs.c0
  have B2 := Lib.hid b2
  clear b1 b2 b3
  go_wp2_with (first | (refine wpList_built rfl 31 _ rfl M.zero.cells (by kernel_rfl) ?_) | (refine wpList_storeM (b := w.heap.size + 1) (m' := M.zero) rfl _ _ rfl rfl rfl B2.out ?_))
  exact bodyPost_ret (v := .tuple #[.agg M.zero.cells, .bool false]) (results_pair (p := 2) (q := 3) (ty := 31) rfl _ _ (w.heap.size + 1) _ rfl (loadVarM (B2.out.put (m' := M.zero))) (.bool false) rfl) rfl ⟨rfl, below_setRow bel (by omega) _⟩

end Go.Proofs.YteecialdkfaejaaGreatDoor.Own
namespace Go.Proofs.YteecialdkfaejaaGreatDoor.RBare
open Go.ChangeShapes Go.WideShapes Go.ChangeAt Go.RowKit
open Go.Proofs.YteecialdkfaejaaGreatDoor.Ms
open Go.Proofs.YteecialdkfaejaaGreatDoor.Box
open Go.Proofs.YteecialdkfaejaaGreatDoor.Same
open Go.Proofs.YteecialdkfaejaaGreatDoor.SameP
open Go.Proofs.YteecialdkfaejaaGreatDoor.Hs
open Go.Proofs.YteecialdkfaejaaGreatDoor.Or
open Go.Proofs.YteecialdkfaejaaGreatDoor.RSame
open Go.Proofs.YteecialdkfaejaaGreatDoor.Own
set_option linter.unusedVariables false
set_option maxRecDepth 100000

/-- What stays while the copy is filled. -/
def S1 (w : World) (m : M) (W : World) : Prop := Bx W w.heap.size m ∧ Below w.heap.size w W
theorem S1.off {w W : World} {m : M} (h : S1 w m W) (p : Addr) (v : Value) (hp : p.block = w.heap.size + 1) : S1 w m (W.setCell p v) := ⟨h.1.off (by omega) v, h.2.setCell (by omega) v⟩
theorem S1.drew {w W : World} {m : M} (h : S1 w m W) : S1 w m W.drew := ⟨h.1, h.2.drew⟩
theorem Bx_drew {W : World} {b : Nat} {m : M} (h : Bx W b m) : Bx W.drew b m := h
def x0 (m : M) : M := { M.zero with kind := m.kind, sa := m.sa, sl := m.sl, sc := m.sc }
theorem start2 (w : World) (m m' : M) (z : Array Value) (hz : z.size = 25) : S1 w m (((w.alloc (.cells m.cells 31)).alloc (.cells z 31)).setRow (w.heap.size + 1) m'.cells) ∧ Bx (((w.alloc (.cells m.cells 31)).alloc (.cells z 31)).setRow (w.heap.size + 1) m'.cells) (w.heap.size + 1) m' := by
  have h := heap_alloc_new (w.alloc (.cells m.cells 31)) (.cells z 31)
  rw [alloc_size] at h
  exact ⟨⟨((Bx.new w m).old _).row (by omega) _, below_setRow (balloc (balloc (Below.refl _ _) _) _) (by omega) _⟩, setRow_heap _ _ z m'.cells _ _ h⟩

end Go.Proofs.YteecialdkfaejaaGreatDoor.RBare
namespace Go.Proofs.YteecialdkfaejaaGreatDoor.RBare
open Go.ChangeShapes Go.WideShapes Go.ChangeAt Go.RowKit
open Go.Proofs.YteecialdkfaejaaGreatDoor.Ms
open Go.Proofs.YteecialdkfaejaaGreatDoor.Box
open Go.Proofs.YteecialdkfaejaaGreatDoor.Same
open Go.Proofs.YteecialdkfaejaaGreatDoor.SameP
open Go.Proofs.YteecialdkfaejaaGreatDoor.Hs
open Go.Proofs.YteecialdkfaejaaGreatDoor.Or
open Go.Proofs.YteecialdkfaejaaGreatDoor.RSame
open Go.Proofs.YteecialdkfaejaaGreatDoor.Own
set_option linter.unusedVariables false
set_option maxRecDepth 100000

set_option maxHeartbeats 6400000 in
set_option maxRecDepth 100000 in
theorem rbare_1 (m : M) (w : World) (hk : m.kind = 1) (hm : m.In w) :
    Calls Tryz.prog 23 #[.agg m.cells] w fun e w' => e = .returned (.bool (M.same { k1 m with kind := 1 } m)) ∧ Below w.heap.size w w' := by
  have HK := Lib.hid hk
  clear hk
  go_enter Tryz.func23, Tryz.ntmps23
  go_upto_region 1 with fail
  have b0 := Bx.new w m
  have hsz := alloc_size w (.cells m.cells 31)
  have c0 := b0.cs.c0
  have c24 := b0.cs.c24
  clear b0
  obtain ⟨hS, bx⟩ := start2 w m (x0 m) M.zero.cells rfl
  have hz := heap_alloc_new (w.alloc (.cells m.cells 31)) (.cells M.zero.cells 31)
  generalize w.alloc (.cells m.cells 31) = V0 at *
  rw [hsz] at hz
  go_upto_region 2 with (first | (refine wpList_built rfl 31 _ rfl (x0 m).cells (by kernel_rfl) ?_) | (change wpList _ _ _ _ _ (V0.alloc (.cells M.zero.cells 31)); refine wpList_storeM (b := w.heap.size + 1) (m := M.zero) (m' := x0 m) rfl _ _ rfl (by first | rfl | (rw [← hsz]; rfl)) rfl hz ?_))
  clear hz c0 c24
  generalize (V0.alloc (.cells M.zero.cells 31)).setRow (w.heap.size + 1) (x0 m).cells = V at *
  clear hsz
  have c0 := hS.1.cs.c0
  rw [HK.out] at c0
  have C := Lib.hid hS.1.cs
  have c1 := C.out.c1
  have c2 := C.out.c2
  have c3 := C.out.c3
  have c4 := C.out.c4
  have c6 := C.out.c6
  have c7 := C.out.c7
  have c8 := C.out.c8
  have c9 := C.out.c9
  have c10 := C.out.c10
  have HX := Lib.hid bx
  have HS := Lib.hid hS
  clear bx hS
  go_upto_region 31 with (first | (refine wpList_built rfl 31 _ rfl (M.cells { k1 m with kind := 1 }) (by kernel_rfl) ?_) | (refine wpList_storeM (b := w.heap.size + 1) (m' := { k1 m with kind := 1 }) rfl _ _ rfl rfl rfl HX.out ?_))
  clear C c0 c1 c2 c3 c4 c6 c7 c8 c9 c10
  have hS : S1 w m (V.setRow (w.heap.size + 1) (M.cells { k1 m with kind := 1 })) := ⟨HS.out.1.row (by omega) _, below_setRow HS.out.2 (by omega) _⟩
  have bx := HX.out.put (m' := { k1 m with kind := 1 })
  clear HX HS
  generalize V.setRow (w.heap.size + 1) (M.cells { k1 m with kind := 1 }) = V1 at *
  have HX := Lib.hid bx
  have HS := Lib.hid hS
  clear bx hS
  go_wp2_with (first | (refine wpList_loadM (b := w.heap.size + 1) (m := { k1 m with kind := 1 }) rfl _ rfl rfl HX.out ?_) | (refine wpList_loadM (b := w.heap.size) (m := m) rfl _ rfl rfl HS.out.1 ?_))
  refine (rsame_any ({ k1 m with kind := 1 }) m _ ⟨DRow.nil _ _, SRow.nil _ _, (Nat.zero_le _), (Nat.zero_le _)⟩ (hm.below HS.out.2)).mono ?_
  rintro e w' ⟨rfl, hb⟩
  replace hb := bcall HS.out.2 hb
  clear HX HS
  go_wp2
  go_ret
  exact ⟨rfl, hb⟩

set_option maxHeartbeats 6400000 in
set_option maxRecDepth 100000 in
theorem rbare_2 (m : M) (w : World) (hk : m.kind = 2) (hm : m.In w) :
    Calls Tryz.prog 23 #[.agg m.cells] w fun e w' => e = .returned (.bool (M.same { k2 m with kind := 2 } m)) ∧ Below w.heap.size w w' := by
  have HK := Lib.hid hk
  clear hk
  go_enter Tryz.func23, Tryz.ntmps23
  go_upto_region 1 with fail
  have b0 := Bx.new w m
  have hsz := alloc_size w (.cells m.cells 31)
  have c0 := b0.cs.c0
  have c24 := b0.cs.c24
  clear b0
  obtain ⟨hS, bx⟩ := start2 w m (x0 m) M.zero.cells rfl
  have hz := heap_alloc_new (w.alloc (.cells m.cells 31)) (.cells M.zero.cells 31)
  generalize w.alloc (.cells m.cells 31) = V0 at *
  rw [hsz] at hz
  go_upto_region 2 with (first | (refine wpList_built rfl 31 _ rfl (x0 m).cells (by kernel_rfl) ?_) | (change wpList _ _ _ _ _ (V0.alloc (.cells M.zero.cells 31)); refine wpList_storeM (b := w.heap.size + 1) (m := M.zero) (m' := x0 m) rfl _ _ rfl (by first | rfl | (rw [← hsz]; rfl)) rfl hz ?_))
  clear hz c0 c24
  generalize (V0.alloc (.cells M.zero.cells 31)).setRow (w.heap.size + 1) (x0 m).cells = V at *
  clear hsz
  have c0 := hS.1.cs.c0
  rw [HK.out] at c0
  have C := Lib.hid hS.1.cs
  have c1 := C.out.c1
  have c6 := C.out.c6
  have c7 := C.out.c7
  have c8 := C.out.c8
  have c9 := C.out.c9
  have c10 := C.out.c10
  have HX := Lib.hid bx
  have HS := Lib.hid hS
  clear bx hS
  go_upto_region 31 with (first | (refine wpList_built rfl 31 _ rfl (M.cells { k2 m with kind := 2 }) (by kernel_rfl) ?_) | (refine wpList_storeM (b := w.heap.size + 1) (m' := { k2 m with kind := 2 }) rfl _ _ rfl rfl rfl HX.out ?_))
  clear C c0 c1 c6 c7 c8 c9 c10
  have hS : S1 w m (V.setRow (w.heap.size + 1) (M.cells { k2 m with kind := 2 })) := ⟨HS.out.1.row (by omega) _, below_setRow HS.out.2 (by omega) _⟩
  have bx := HX.out.put (m' := { k2 m with kind := 2 })
  clear HX HS
  generalize V.setRow (w.heap.size + 1) (M.cells { k2 m with kind := 2 }) = V1 at *
  have HX := Lib.hid bx
  have HS := Lib.hid hS
  clear bx hS
  go_wp2_with (first | (refine wpList_loadM (b := w.heap.size + 1) (m := { k2 m with kind := 2 }) rfl _ rfl rfl HX.out ?_) | (refine wpList_loadM (b := w.heap.size) (m := m) rfl _ rfl rfl HS.out.1 ?_))
  refine (rsame_any ({ k2 m with kind := 2 }) m _ ⟨DRow.nil _ _, SRow.nil _ _, (Nat.zero_le _), (Nat.zero_le _)⟩ (hm.below HS.out.2)).mono ?_
  rintro e w' ⟨rfl, hb⟩
  replace hb := bcall HS.out.2 hb
  clear HX HS
  go_wp2
  go_ret
  exact ⟨rfl, hb⟩

set_option maxHeartbeats 6400000 in
set_option maxRecDepth 100000 in
theorem rbare_3 (m : M) (w : World) (hk : m.kind = 3) (hm : m.In w) :
    Calls Tryz.prog 23 #[.agg m.cells] w fun e w' => e = .returned (.bool (M.same { k3 m with kind := m.kind } m)) ∧ Below w.heap.size w w' := by
  have HK := Lib.hid hk
  clear hk
  go_enter Tryz.func23, Tryz.ntmps23
  go_upto_region 1 with fail
  have b0 := Bx.new w m
  have hsz := alloc_size w (.cells m.cells 31)
  have c0 := b0.cs.c0
  have c24 := b0.cs.c24
  clear b0
  obtain ⟨hS, bx⟩ := start2 w m (x0 m) M.zero.cells rfl
  have hz := heap_alloc_new (w.alloc (.cells m.cells 31)) (.cells M.zero.cells 31)
  generalize w.alloc (.cells m.cells 31) = V0 at *
  rw [hsz] at hz
  go_upto_region 2 with (first | (refine wpList_built rfl 31 _ rfl (x0 m).cells (by kernel_rfl) ?_) | (change wpList _ _ _ _ _ (V0.alloc (.cells M.zero.cells 31)); refine wpList_storeM (b := w.heap.size + 1) (m := M.zero) (m' := x0 m) rfl _ _ rfl (by first | rfl | (rw [← hsz]; rfl)) rfl hz ?_))
  clear hz c0 c24
  generalize (V0.alloc (.cells M.zero.cells 31)).setRow (w.heap.size + 1) (x0 m).cells = V at *
  clear hsz
  have c0 := hS.1.cs.c0
  rw [HK.out] at c0
  clear V0
  have HX := Lib.hid bx
  have HS := Lib.hid hS
  clear bx hS
  go_upto_region 9 with fail
  clear c0
  refine wp_region_held_drew (S := S1 w m) (by kernel_rfl) HS.out.drew (fun hS => ?_)
  have bx := Bx_drew HX.out
  clear HX HS
  generalize V.drew = W0 at *
  refine H.tk (i := 0) (v := ?v0) ?h0 hS ?_
  case h0 => (intro w hw; go_simp; first | done | (with_reducible rfl))
  try simp only [Act.put, List.setIfInBounds_toArray, List.set_cons_zero, List.set_cons_succ]
  refine H.tk (i := 1) (v := ?v1) ?h1 hS ?_
  case h1 => (intro w hw; have c := (hw.1).cs.c15; go_simp; first | done | (with_reducible rfl))
  try simp only [Act.put, List.setIfInBounds_toArray, List.set_cons_zero, List.set_cons_succ]
  refine H.tk (i := 2) (v := ?v2) ?h2 hS ?_
  case h2 => (intro w hw; go_simp; first | done | (with_reducible rfl))
  try simp only [Act.put, List.setIfInBounds_toArray, List.set_cons_zero, List.set_cons_succ]
  refine H.tk (i := 3) (v := ?v3) ?h3 hS ?_
  case h3 => (intro w hw; have c := (hw.1).cs.c16; go_simp; first | done | (with_reducible rfl))
  try simp only [Act.put, List.setIfInBounds_toArray, List.set_cons_zero, List.set_cons_succ]
  refine H.tk (i := 4) (v := ?v4) ?h4 hS ?_
  case h4 => (intro w hw; go_simp; first | done | (with_reducible rfl))
  try simp only [Act.put, List.setIfInBounds_toArray, List.set_cons_zero, List.set_cons_succ]
  refine H.tk (i := 5) (v := ?v5) ?h5 hS ?_
  case h5 => (intro w hw; have c := (hw.1).cs.c17; go_simp; first | done | (with_reducible rfl))
  try simp only [Act.put, List.setIfInBounds_toArray, List.set_cons_zero, List.set_cons_succ]
  refine H.tk (i := 6) (v := ?v6) ?h6 hS ?_
  case h6 => (intro w hw; go_simp; first | done | (with_reducible rfl))
  try simp only [Act.put, List.setIfInBounds_toArray, List.set_cons_zero, List.set_cons_succ]
  refine H.tk (i := 7) (v := ?v7) ?h7 hS ?_
  case h7 => (intro w hw; have c := (hw.1).cs.c19; go_simp; first | done | (with_reducible rfl))
  try simp only [Act.put, List.setIfInBounds_toArray, List.set_cons_zero, List.set_cons_succ]
  refine H.tk (i := 8) (v := ?v8) ?h8 hS ?_
  case h8 => (intro w hw; go_simp; first | done | (with_reducible rfl))
  try simp only [Act.put, List.setIfInBounds_toArray, List.set_cons_zero, List.set_cons_succ]
  refine H.tk (i := 9) (v := ?v9) ?h9 hS ?_
  case h9 => (intro w hw; have c := (hw.1).cs.c12; go_simp; first | done | (with_reducible rfl))
  try simp only [Act.put, List.setIfInBounds_toArray, List.set_cons_zero, List.set_cons_succ]
  refine H.tk (i := 10) (v := ?v10) ?h10 hS ?_
  case h10 => (intro w hw; go_simp; first | done | (with_reducible rfl))
  try simp only [Act.put, List.setIfInBounds_toArray, List.set_cons_zero, List.set_cons_succ]
  refine H.tk (i := 11) (v := ?v11) ?h11 hS ?_
  case h11 => (intro w hw; have c := (hw.1).cs.c20; go_simp; first | done | (with_reducible rfl))
  try simp only [Act.put, List.setIfInBounds_toArray, List.set_cons_zero, List.set_cons_succ]
  refine H.tk (i := 12) (v := ?v12) ?h12 hS ?_
  case h12 => (intro w hw; go_simp; first | done | (with_reducible rfl))
  try simp only [Act.put, List.setIfInBounds_toArray, List.set_cons_zero, List.set_cons_succ]
  refine H.tk (i := 13) (v := ?v13) ?h13 hS ?_
  case h13 => (intro w hw; have c := (hw.1).cs.c13; go_simp; first | done | (with_reducible rfl))
  try simp only [Act.put, List.setIfInBounds_toArray, List.set_cons_zero, List.set_cons_succ]
  refine H.tk (i := 14) (v := ?v14) ?h14 hS ?_
  case h14 => (intro w hw; go_simp; first | done | (with_reducible rfl))
  try simp only [Act.put, List.setIfInBounds_toArray, List.set_cons_zero, List.set_cons_succ]
  refine wpAnyH_ready (rs := [15]) (by kernel_rfl) (by simp) ?_
  refine AllReadyH.cons rfl (fun K hK => ?_) AllReadyH.nil
  have cx := bx.cell 15 _ rfl
  have fx := bx.frozen 15
  go_simp
  have bx' := bx.set (i := 15) (v := (.int .i64 m.flags)) (m' := { x0 m with flags := m.flags }) rfl
  refine hK.out _ _ (hS.off ⟨w.heap.size + 1, 15, none⟩ (.int .i64 m.flags) rfl) (fun hS' => ?_)
  clear hK K hS bx cx fx
  have hS := hS'
  have bx := bx'
  clear hS' bx'
  generalize World.setCell _ ⟨w.heap.size + 1, 15, none⟩ (.int .i64 m.flags) = W15 at *
  try simp only [Act.put, List.setIfInBounds_toArray, List.set_cons_zero, List.set_cons_succ]
  refine H.tk (i := 16) (v := ?v16) ?h16 hS ?_
  case h16 => (intro w hw; go_simp; first | done | (with_reducible rfl))
  try simp only [Act.put, List.setIfInBounds_toArray, List.set_cons_zero, List.set_cons_succ]
  refine wpAnyH_ready (rs := [17]) (by kernel_rfl) (by simp) ?_
  refine AllReadyH.cons rfl (fun K hK => ?_) AllReadyH.nil
  have cx := bx.cell 16 _ rfl
  have fx := bx.frozen 16
  go_simp
  have bx' := bx.set (i := 16) (v := (.int .i64 m.hops)) (m' := { x0 m with flags := m.flags, hops := m.hops }) rfl
  refine hK.out _ _ (hS.off ⟨w.heap.size + 1, 16, none⟩ (.int .i64 m.hops) rfl) (fun hS' => ?_)
  clear hK K hS bx cx fx
  have hS := hS'
  have bx := bx'
  clear hS' bx'
  generalize World.setCell _ ⟨w.heap.size + 1, 16, none⟩ (.int .i64 m.hops) = W17 at *
  try simp only [Act.put, List.setIfInBounds_toArray, List.set_cons_zero, List.set_cons_succ]
  refine H.tk (i := 18) (v := ?v18) ?h18 hS ?_
  case h18 => (intro w hw; go_simp; first | done | (with_reducible rfl))
  try simp only [Act.put, List.setIfInBounds_toArray, List.set_cons_zero, List.set_cons_succ]
  refine wpAnyH_ready (rs := [19]) (by kernel_rfl) (by simp) ?_
  refine AllReadyH.cons rfl (fun K hK => ?_) AllReadyH.nil
  have cx := bx.cell 17 _ rfl
  have fx := bx.frozen 17
  go_simp
  have bx' := bx.set (i := 17) (v := (.int .i64 m.nonce)) (m' := { x0 m with flags := m.flags, hops := m.hops, nonce := m.nonce }) rfl
  refine hK.out _ _ (hS.off ⟨w.heap.size + 1, 17, none⟩ (.int .i64 m.nonce) rfl) (fun hS' => ?_)
  clear hK K hS bx cx fx
  have hS := hS'
  have bx := bx'
  clear hS' bx'
  generalize World.setCell _ ⟨w.heap.size + 1, 17, none⟩ (.int .i64 m.nonce) = W19 at *
  try simp only [Act.put, List.setIfInBounds_toArray, List.set_cons_zero, List.set_cons_succ]
  refine H.tk (i := 20) (v := ?v20) ?h20 hS ?_
  case h20 => (intro w hw; go_simp; first | done | (with_reducible rfl))
  try simp only [Act.put, List.setIfInBounds_toArray, List.set_cons_zero, List.set_cons_succ]
  refine wpAnyH_ready (rs := [21]) (by kernel_rfl) (by simp) ?_
  refine AllReadyH.cons rfl (fun K hK => ?_) AllReadyH.nil
  have cx := bx.cell 19 _ rfl
  have fx := bx.frozen 19
  go_simp
  have bx' := bx.set (i := 19) (v := (.string m.addr)) (m' := { x0 m with flags := m.flags, hops := m.hops, nonce := m.nonce, addr := m.addr }) rfl
  refine hK.out _ _ (hS.off ⟨w.heap.size + 1, 19, none⟩ (.string m.addr) rfl) (fun hS' => ?_)
  clear hK K hS bx cx fx
  have hS := hS'
  have bx := bx'
  clear hS' bx'
  generalize World.setCell _ ⟨w.heap.size + 1, 19, none⟩ (.string m.addr) = W21 at *
  try simp only [Act.put, List.setIfInBounds_toArray, List.set_cons_zero, List.set_cons_succ]
  refine H.tk (i := 22) (v := ?v22) ?h22 hS ?_
  case h22 => (intro w hw; go_simp; first | done | (with_reducible rfl))
  try simp only [Act.put, List.setIfInBounds_toArray, List.set_cons_zero, List.set_cons_succ]
  refine wpAnyH_ready (rs := [23]) (by kernel_rfl) (by simp) ?_
  refine AllReadyH.cons rfl (fun K hK => ?_) AllReadyH.nil
  have cx := bx.cell 12 _ rfl
  have fx := bx.frozen 12
  go_simp
  have bx' := bx.set (i := 12) (v := (.int .i64 m.seq)) (m' := { x0 m with flags := m.flags, hops := m.hops, nonce := m.nonce, addr := m.addr, seq := m.seq }) rfl
  refine hK.out _ _ (hS.off ⟨w.heap.size + 1, 12, none⟩ (.int .i64 m.seq) rfl) (fun hS' => ?_)
  clear hK K hS bx cx fx
  have hS := hS'
  have bx := bx'
  clear hS' bx'
  generalize World.setCell _ ⟨w.heap.size + 1, 12, none⟩ (.int .i64 m.seq) = W23 at *
  try simp only [Act.put, List.setIfInBounds_toArray, List.set_cons_zero, List.set_cons_succ]
  refine H.tk (i := 24) (v := ?v24) ?h24 hS ?_
  case h24 => (intro w hw; go_simp; first | done | (with_reducible rfl))
  try simp only [Act.put, List.setIfInBounds_toArray, List.set_cons_zero, List.set_cons_succ]
  refine wpAnyH_ready (rs := [25]) (by kernel_rfl) (by simp) ?_
  refine AllReadyH.cons rfl (fun K hK => ?_) AllReadyH.nil
  have cx := bx.cell 20 _ rfl
  have fx := bx.frozen 20
  go_simp
  have bx' := bx.set (i := 20) (v := (.string m.orig)) (m' := { x0 m with flags := m.flags, hops := m.hops, nonce := m.nonce, addr := m.addr, seq := m.seq, orig := m.orig }) rfl
  refine hK.out _ _ (hS.off ⟨w.heap.size + 1, 20, none⟩ (.string m.orig) rfl) (fun hS' => ?_)
  clear hK K hS bx cx fx
  have hS := hS'
  have bx := bx'
  clear hS' bx'
  generalize World.setCell _ ⟨w.heap.size + 1, 20, none⟩ (.string m.orig) = W25 at *
  try simp only [Act.put, List.setIfInBounds_toArray, List.set_cons_zero, List.set_cons_succ]
  refine H.tk (i := 26) (v := ?v26) ?h26 hS ?_
  case h26 => (intro w hw; go_simp; first | done | (with_reducible rfl))
  try simp only [Act.put, List.setIfInBounds_toArray, List.set_cons_zero, List.set_cons_succ]
  refine wpAnyH_ready (rs := [27]) (by kernel_rfl) (by simp) ?_
  refine AllReadyH.cons rfl (fun K hK => ?_) AllReadyH.nil
  have cx := bx.cell 13 _ rfl
  have fx := bx.frozen 13
  go_simp
  have bx' := bx.set (i := 13) (v := (.int .i64 m.seq2)) (m' := { x0 m with flags := m.flags, hops := m.hops, nonce := m.nonce, addr := m.addr, seq := m.seq, orig := m.orig, seq2 := m.seq2 }) rfl
  refine hK.out _ _ (hS.off ⟨w.heap.size + 1, 13, none⟩ (.int .i64 m.seq2) rfl) (fun hS' => ?_)
  clear hK K hS bx cx fx
  have hS := hS'
  have bx := bx'
  clear hS' bx'
  generalize World.setCell _ ⟨w.heap.size + 1, 13, none⟩ (.int .i64 m.seq2) = W27 at *
  try simp only [Act.put, List.setIfInBounds_toArray, List.set_cons_zero, List.set_cons_succ]
  refine wpAnyH_done (by kernel_rfl) ?_ _
  have HX := Lib.hid bx
  have HS := Lib.hid hS
  clear bx hS
  go_upto_region 31 with fail
  go_wp2_with (first | (refine wpList_loadM (b := w.heap.size + 1) (m := { x0 m with flags := m.flags, hops := m.hops, nonce := m.nonce, addr := m.addr, seq := m.seq, orig := m.orig, seq2 := m.seq2 }) rfl _ rfl rfl HX.out ?_) | (refine wpList_loadM (b := w.heap.size) (m := m) rfl _ rfl rfl HS.out.1 ?_))
  refine (rsame_any ({ x0 m with flags := m.flags, hops := m.hops, nonce := m.nonce, addr := m.addr, seq := m.seq, orig := m.orig, seq2 := m.seq2 }) m _ ⟨DRow.nil _ _, (hm.below HS.out.2).s, (Nat.zero_le _), hm.sl⟩ (hm.below HS.out.2)).mono ?_
  rintro e w' ⟨rfl, hb⟩
  replace hb := bcall HS.out.2 hb
  clear HX HS
  go_wp2
  go_ret
  exact ⟨rfl, hb⟩

set_option maxHeartbeats 6400000 in
set_option maxRecDepth 100000 in
theorem rbare_6 (m : M) (w : World) (hk : m.kind = 6) (hm : m.In w) :
    Calls Tryz.prog 23 #[.agg m.cells] w fun e w' => e = .returned (.bool (M.same { k6 m with kind := m.kind } m)) ∧ Below w.heap.size w w' := by
  have HK := Lib.hid hk
  clear hk
  go_enter Tryz.func23, Tryz.ntmps23
  go_upto_region 1 with fail
  have b0 := Bx.new w m
  have hsz := alloc_size w (.cells m.cells 31)
  have c0 := b0.cs.c0
  have c24 := b0.cs.c24
  clear b0
  obtain ⟨hS, bx⟩ := start2 w m (x0 m) M.zero.cells rfl
  have hz := heap_alloc_new (w.alloc (.cells m.cells 31)) (.cells M.zero.cells 31)
  generalize w.alloc (.cells m.cells 31) = V0 at *
  rw [hsz] at hz
  go_upto_region 2 with (first | (refine wpList_built rfl 31 _ rfl (x0 m).cells (by kernel_rfl) ?_) | (change wpList _ _ _ _ _ (V0.alloc (.cells M.zero.cells 31)); refine wpList_storeM (b := w.heap.size + 1) (m := M.zero) (m' := x0 m) rfl _ _ rfl (by first | rfl | (rw [← hsz]; rfl)) rfl hz ?_))
  clear hz c0 c24
  generalize (V0.alloc (.cells M.zero.cells 31)).setRow (w.heap.size + 1) (x0 m).cells = V at *
  clear hsz
  have c0 := hS.1.cs.c0
  rw [HK.out] at c0
  have HX := Lib.hid bx
  have HS := Lib.hid hS
  clear bx hS
  go_upto_region 31 with fail
  go_wp2_with (first | (refine wpList_loadM (b := w.heap.size + 1) (m := x0 m) rfl _ rfl rfl HX.out ?_) | (refine wpList_loadM (b := w.heap.size) (m := m) rfl _ rfl rfl HS.out.1 ?_))
  refine (rsame_any (x0 m) m _ ⟨DRow.nil _ _, (hm.below HS.out.2).s, (Nat.zero_le _), hm.sl⟩ (hm.below HS.out.2)).mono ?_
  rintro e w' ⟨rfl, hb⟩
  replace hb := bcall HS.out.2 hb
  clear HX HS
  go_wp2
  go_ret
  exact ⟨rfl, hb⟩

end Go.Proofs.YteecialdkfaejaaGreatDoor.RBare
