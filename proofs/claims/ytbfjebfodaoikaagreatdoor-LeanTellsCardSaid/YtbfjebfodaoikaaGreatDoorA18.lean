/-
  A message with the fields of its kind alone: the program's answer, kinds 10 to 12.
  A message with the fields of its kind alone: the program's answer, kinds 13 to 14, and none.
  Whether a message is bare: the document's answer, kinds one. Condition: lists of at most 2^20 elements.
-/
import Derived.Test.YtbfjebfodaoikaaGreatDoorA07
namespace Go.Proofs.YtbfjebfodaoikaaGreatDoor.Own
open Go.ChangeShapes Go.WideShapes Go.ChangeAt Go.RowKit
open Go.Proofs.YtbfjebfodaoikaaGreatDoor.Ms
open Go.Proofs.YtbfjebfodaoikaaGreatDoor.Box
open Go.Proofs.YtbfjebfodaoikaaGreatDoor.Same
open Go.Proofs.YtbfjebfodaoikaaGreatDoor.Or
set_option linter.unusedVariables false
set_option maxRecDepth 100000

set_option maxHeartbeats 6400000 in
set_option maxRecDepth 100000 in
theorem own_10 (m : M) (w : World) (hk : m.kind = 10) :
    Calls Tryz.prog 52 #[.agg m.cells] w fun e w' => e = .returned (.tuple #[.agg (M.cells { k10 m with kind := m.kind }), .bool true]) ∧ Below w.heap.size w w' := by
  obtain ⟨b1, b2, b3, bel⟩ := start3 w m
  go_enter Tryz.func52, Tryz.ntmps52
  go_upto_region 2 with fail
  change Code.wp _ _ _ _ (((w.alloc (.cells m.cells 29)).alloc (.cells M.zero.cells 29)).alloc (.cells M.zero.cells 29))
  generalize ((w.alloc (.cells m.cells 29)).alloc (.cells M.zero.cells 29)).alloc (.cells M.zero.cells 29) = V at *
  obtain ⟨c0, c1, c2, c3, c4, c5, c6, c7, c8, c9, c10, c11, c12, c13, c14, c15, c16, c17, c18, c19, c20, c21, c22, c23, c24⟩ := b1.cs
  clear c1 c2 c3 c4 c6 c7 c8 c9 c10 c11 c12 c13 c15 c16 c17 c20 c21 c22 c23
  rw [hk] at c0
  have HK := Lib.hid hk
  have B1 := Lib.hid b1
  have B2 := Lib.hid b2
  have B3 := Lib.hid b3
  clear hk b1 b2 b3
  go_upto_region 32 with (first | (refine wpList_built rfl 29 _ rfl (M.cells (k10 m)) (by kernel_rfl) ?_) | (refine wpList_storeM (b := w.heap.size + 1 + 1) (m' := k10 m) rfl _ _ rfl rfl rfl B3.out ?_))
  clear c0 c5 c14 c18 c19 c24
  have b3 := B3.out.put (m' := k10 m)
  have b2 := B2.out.row (g := w.heap.size + 1 + 1) (by omega) (M.cells (k10 m))
  have b1 := B1.out.row (g := w.heap.size + 1 + 1) (by omega) (M.cells (k10 m))
  have bel := below_setRow bel (g := w.heap.size + 1 + 1) (by omega) (M.cells (k10 m))
  clear B1 B2 B3
  generalize V.setRow (w.heap.size + 1 + 1) (M.cells (k10 m)) = V1 at *
  have c0 := b1.cs.c0
  have d0 := b3.cs.c0
  have f0 := b3.frozen 0
  have B1 := Lib.hid b1
  have B2 := Lib.hid b2
  have B3 := Lib.hid b3
  clear b1 b2 b3
  go_upto_region 33 with fail
  have b3 := B3.out.set (i := 0) (v := .int .i64 m.kind) (m' := { k10 m with kind := m.kind }) rfl
  have b2 := B2.out.off (p := ⟨w.heap.size + 1 + 1, 0, none⟩) (by simp) (.int .i64 m.kind)
  have bel := bel.setCell (p := ⟨w.heap.size + 1 + 1, 0, none⟩) (by simp; omega) (.int .i64 m.kind)
  clear B1 B2 B3 c0 d0 f0
  generalize V1.setCell ⟨w.heap.size + 1 + 1, 0, none⟩ (.int .i64 m.kind) = V2 at *
  have B2 := Lib.hid b2
  have B3 := Lib.hid b3
  clear b2 b3
  go_wp2_with (first | (refine wpList_loadM (b := w.heap.size + 1 + 1) (m := { k10 m with kind := m.kind }) rfl _ rfl rfl B3.out ?_) | (refine wpList_storeM (b := w.heap.size + 1) (m' := { k10 m with kind := m.kind }) rfl _ _ rfl rfl rfl B2.out ?_))
  exact bodyPost_ret (v := .tuple #[.agg (M.cells { k10 m with kind := m.kind }), .bool true]) (results_pair (p := 2) (q := 3) (ty := 29) rfl _ _ (w.heap.size + 1) _ rfl (loadVarM (B2.out.put (m' := { k10 m with kind := m.kind }))) (.bool true) rfl) rfl ⟨rfl, below_setRow bel (by omega) _⟩

set_option maxHeartbeats 6400000 in
set_option maxRecDepth 100000 in
theorem own_11 (m : M) (w : World) (hk : m.kind = 11) :
    Calls Tryz.prog 52 #[.agg m.cells] w fun e w' => e = .returned (.tuple #[.agg (M.cells { k11 m with kind := m.kind }), .bool true]) ∧ Below w.heap.size w w' := by
  obtain ⟨b1, b2, b3, bel⟩ := start3 w m
  go_enter Tryz.func52, Tryz.ntmps52
  go_upto_region 2 with fail
  change Code.wp _ _ _ _ (((w.alloc (.cells m.cells 29)).alloc (.cells M.zero.cells 29)).alloc (.cells M.zero.cells 29))
  generalize ((w.alloc (.cells m.cells 29)).alloc (.cells M.zero.cells 29)).alloc (.cells M.zero.cells 29) = V at *
  obtain ⟨c0, c1, c2, c3, c4, c5, c6, c7, c8, c9, c10, c11, c12, c13, c14, c15, c16, c17, c18, c19, c20, c21, c22, c23, c24⟩ := b1.cs
  clear c1 c2 c3 c4 c8 c13 c15 c16 c17 c18 c19 c20 c21 c22 c23
  rw [hk] at c0
  have HK := Lib.hid hk
  have B1 := Lib.hid b1
  have B2 := Lib.hid b2
  have B3 := Lib.hid b3
  clear hk b1 b2 b3
  go_upto_region 32 with (first | (refine wpList_built rfl 29 _ rfl (M.cells (k11 m)) (by kernel_rfl) ?_) | (refine wpList_storeM (b := w.heap.size + 1 + 1) (m' := k11 m) rfl _ _ rfl rfl rfl B3.out ?_))
  clear c0 c5 c6 c7 c9 c10 c11 c12 c14 c24
  have b3 := B3.out.put (m' := k11 m)
  have b2 := B2.out.row (g := w.heap.size + 1 + 1) (by omega) (M.cells (k11 m))
  have b1 := B1.out.row (g := w.heap.size + 1 + 1) (by omega) (M.cells (k11 m))
  have bel := below_setRow bel (g := w.heap.size + 1 + 1) (by omega) (M.cells (k11 m))
  clear B1 B2 B3
  generalize V.setRow (w.heap.size + 1 + 1) (M.cells (k11 m)) = V1 at *
  have c0 := b1.cs.c0
  have d0 := b3.cs.c0
  have f0 := b3.frozen 0
  have B1 := Lib.hid b1
  have B2 := Lib.hid b2
  have B3 := Lib.hid b3
  clear b1 b2 b3
  go_upto_region 33 with fail
  have b3 := B3.out.set (i := 0) (v := .int .i64 m.kind) (m' := { k11 m with kind := m.kind }) rfl
  have b2 := B2.out.off (p := ⟨w.heap.size + 1 + 1, 0, none⟩) (by simp) (.int .i64 m.kind)
  have bel := bel.setCell (p := ⟨w.heap.size + 1 + 1, 0, none⟩) (by simp; omega) (.int .i64 m.kind)
  clear B1 B2 B3 c0 d0 f0
  generalize V1.setCell ⟨w.heap.size + 1 + 1, 0, none⟩ (.int .i64 m.kind) = V2 at *
  have B2 := Lib.hid b2
  have B3 := Lib.hid b3
  clear b2 b3
  go_wp2_with (first | (refine wpList_loadM (b := w.heap.size + 1 + 1) (m := { k11 m with kind := m.kind }) rfl _ rfl rfl B3.out ?_) | (refine wpList_storeM (b := w.heap.size + 1) (m' := { k11 m with kind := m.kind }) rfl _ _ rfl rfl rfl B2.out ?_))
  exact bodyPost_ret (v := .tuple #[.agg (M.cells { k11 m with kind := m.kind }), .bool true]) (results_pair (p := 2) (q := 3) (ty := 29) rfl _ _ (w.heap.size + 1) _ rfl (loadVarM (B2.out.put (m' := { k11 m with kind := m.kind }))) (.bool true) rfl) rfl ⟨rfl, below_setRow bel (by omega) _⟩

set_option maxHeartbeats 6400000 in
set_option maxRecDepth 100000 in
theorem own_12 (m : M) (w : World) (hk : m.kind = 12) :
    Calls Tryz.prog 52 #[.agg m.cells] w fun e w' => e = .returned (.tuple #[.agg (M.cells { k12 m with kind := m.kind }), .bool true]) ∧ Below w.heap.size w w' := by
  obtain ⟨b1, b2, b3, bel⟩ := start3 w m
  go_enter Tryz.func52, Tryz.ntmps52
  go_upto_region 2 with fail
  change Code.wp _ _ _ _ (((w.alloc (.cells m.cells 29)).alloc (.cells M.zero.cells 29)).alloc (.cells M.zero.cells 29))
  generalize ((w.alloc (.cells m.cells 29)).alloc (.cells M.zero.cells 29)).alloc (.cells M.zero.cells 29) = V at *
  obtain ⟨c0, c1, c2, c3, c4, c5, c6, c7, c8, c9, c10, c11, c12, c13, c14, c15, c16, c17, c18, c19, c20, c21, c22, c23, c24⟩ := b1.cs
  clear c1 c2 c3 c4 c8 c9 c10 c11 c12 c13 c14 c15 c16 c17 c18 c19 c20 c21 c22 c23
  rw [hk] at c0
  have HK := Lib.hid hk
  have B1 := Lib.hid b1
  have B2 := Lib.hid b2
  have B3 := Lib.hid b3
  clear hk b1 b2 b3
  go_upto_region 32 with (first | (refine wpList_built rfl 29 _ rfl (M.cells (k12 m)) (by kernel_rfl) ?_) | (refine wpList_storeM (b := w.heap.size + 1 + 1) (m' := k12 m) rfl _ _ rfl rfl rfl B3.out ?_))
  clear c0 c5 c6 c7 c24
  have b3 := B3.out.put (m' := k12 m)
  have b2 := B2.out.row (g := w.heap.size + 1 + 1) (by omega) (M.cells (k12 m))
  have b1 := B1.out.row (g := w.heap.size + 1 + 1) (by omega) (M.cells (k12 m))
  have bel := below_setRow bel (g := w.heap.size + 1 + 1) (by omega) (M.cells (k12 m))
  clear B1 B2 B3
  generalize V.setRow (w.heap.size + 1 + 1) (M.cells (k12 m)) = V1 at *
  have c0 := b1.cs.c0
  have d0 := b3.cs.c0
  have f0 := b3.frozen 0
  have B1 := Lib.hid b1
  have B2 := Lib.hid b2
  have B3 := Lib.hid b3
  clear b1 b2 b3
  go_upto_region 33 with fail
  have b3 := B3.out.set (i := 0) (v := .int .i64 m.kind) (m' := { k12 m with kind := m.kind }) rfl
  have b2 := B2.out.off (p := ⟨w.heap.size + 1 + 1, 0, none⟩) (by simp) (.int .i64 m.kind)
  have bel := bel.setCell (p := ⟨w.heap.size + 1 + 1, 0, none⟩) (by simp; omega) (.int .i64 m.kind)
  clear B1 B2 B3 c0 d0 f0
  generalize V1.setCell ⟨w.heap.size + 1 + 1, 0, none⟩ (.int .i64 m.kind) = V2 at *
  have B2 := Lib.hid b2
  have B3 := Lib.hid b3
  clear b2 b3
  go_wp2_with (first | (refine wpList_loadM (b := w.heap.size + 1 + 1) (m := { k12 m with kind := m.kind }) rfl _ rfl rfl B3.out ?_) | (refine wpList_storeM (b := w.heap.size + 1) (m' := { k12 m with kind := m.kind }) rfl _ _ rfl rfl rfl B2.out ?_))
  exact bodyPost_ret (v := .tuple #[.agg (M.cells { k12 m with kind := m.kind }), .bool true]) (results_pair (p := 2) (q := 3) (ty := 29) rfl _ _ (w.heap.size + 1) _ rfl (loadVarM (B2.out.put (m' := { k12 m with kind := m.kind }))) (.bool true) rfl) rfl ⟨rfl, below_setRow bel (by omega) _⟩

end Go.Proofs.YtbfjebfodaoikaaGreatDoor.Own
namespace Go.Proofs.YtbfjebfodaoikaaGreatDoor.Own
open Go.ChangeShapes Go.WideShapes Go.ChangeAt Go.RowKit
open Go.Proofs.YtbfjebfodaoikaaGreatDoor.Ms
open Go.Proofs.YtbfjebfodaoikaaGreatDoor.Box
open Go.Proofs.YtbfjebfodaoikaaGreatDoor.Same
open Go.Proofs.YtbfjebfodaoikaaGreatDoor.Or
set_option linter.unusedVariables false
set_option maxRecDepth 100000

set_option maxHeartbeats 6400000 in
set_option maxRecDepth 100000 in
theorem own_13 (m : M) (w : World) (hk : m.kind = 13) :
    Calls Tryz.prog 52 #[.agg m.cells] w fun e w' => e = .returned (.tuple #[.agg (M.cells { k13 m with kind := m.kind }), .bool true]) ∧ Below w.heap.size w w' := by
  obtain ⟨b1, b2, b3, bel⟩ := start3 w m
  go_enter Tryz.func52, Tryz.ntmps52
  go_upto_region 2 with fail
  change Code.wp _ _ _ _ (((w.alloc (.cells m.cells 29)).alloc (.cells M.zero.cells 29)).alloc (.cells M.zero.cells 29))
  generalize ((w.alloc (.cells m.cells 29)).alloc (.cells M.zero.cells 29)).alloc (.cells M.zero.cells 29) = V at *
  obtain ⟨c0, c1, c2, c3, c4, c5, c6, c7, c8, c9, c10, c11, c12, c13, c14, c15, c16, c17, c18, c19, c20, c21, c22, c23, c24⟩ := b1.cs
  clear c1 c2 c3 c4 c8 c9 c10 c13 c14 c15 c17 c18 c19 c20 c21 c22 c23
  rw [hk] at c0
  have HK := Lib.hid hk
  have B1 := Lib.hid b1
  have B2 := Lib.hid b2
  have B3 := Lib.hid b3
  clear hk b1 b2 b3
  go_upto_region 32 with (first | (refine wpList_built rfl 29 _ rfl (M.cells (k13 m)) (by kernel_rfl) ?_) | (refine wpList_storeM (b := w.heap.size + 1 + 1) (m' := k13 m) rfl _ _ rfl rfl rfl B3.out ?_))
  clear c0 c5 c6 c7 c11 c12 c16 c24
  have b3 := B3.out.put (m' := k13 m)
  have b2 := B2.out.row (g := w.heap.size + 1 + 1) (by omega) (M.cells (k13 m))
  have b1 := B1.out.row (g := w.heap.size + 1 + 1) (by omega) (M.cells (k13 m))
  have bel := below_setRow bel (g := w.heap.size + 1 + 1) (by omega) (M.cells (k13 m))
  clear B1 B2 B3
  generalize V.setRow (w.heap.size + 1 + 1) (M.cells (k13 m)) = V1 at *
  have c0 := b1.cs.c0
  have d0 := b3.cs.c0
  have f0 := b3.frozen 0
  have B1 := Lib.hid b1
  have B2 := Lib.hid b2
  have B3 := Lib.hid b3
  clear b1 b2 b3
  go_upto_region 33 with fail
  have b3 := B3.out.set (i := 0) (v := .int .i64 m.kind) (m' := { k13 m with kind := m.kind }) rfl
  have b2 := B2.out.off (p := ⟨w.heap.size + 1 + 1, 0, none⟩) (by simp) (.int .i64 m.kind)
  have bel := bel.setCell (p := ⟨w.heap.size + 1 + 1, 0, none⟩) (by simp; omega) (.int .i64 m.kind)
  clear B1 B2 B3 c0 d0 f0
  generalize V1.setCell ⟨w.heap.size + 1 + 1, 0, none⟩ (.int .i64 m.kind) = V2 at *
  have B2 := Lib.hid b2
  have B3 := Lib.hid b3
  clear b2 b3
  go_wp2_with (first | (refine wpList_loadM (b := w.heap.size + 1 + 1) (m := { k13 m with kind := m.kind }) rfl _ rfl rfl B3.out ?_) | (refine wpList_storeM (b := w.heap.size + 1) (m' := { k13 m with kind := m.kind }) rfl _ _ rfl rfl rfl B2.out ?_))
  exact bodyPost_ret (v := .tuple #[.agg (M.cells { k13 m with kind := m.kind }), .bool true]) (results_pair (p := 2) (q := 3) (ty := 29) rfl _ _ (w.heap.size + 1) _ rfl (loadVarM (B2.out.put (m' := { k13 m with kind := m.kind }))) (.bool true) rfl) rfl ⟨rfl, below_setRow bel (by omega) _⟩

set_option maxHeartbeats 6400000 in
set_option maxRecDepth 100000 in
theorem own_14 (m : M) (w : World) (hk : m.kind = 14) :
    Calls Tryz.prog 52 #[.agg m.cells] w fun e w' => e = .returned (.tuple #[.agg (M.cells { k14 m with kind := m.kind }), .bool true]) ∧ Below w.heap.size w w' := by
  obtain ⟨b1, b2, b3, bel⟩ := start3 w m
  go_enter Tryz.func52, Tryz.ntmps52
  go_upto_region 2 with fail
  change Code.wp _ _ _ _ (((w.alloc (.cells m.cells 29)).alloc (.cells M.zero.cells 29)).alloc (.cells M.zero.cells 29))
  generalize ((w.alloc (.cells m.cells 29)).alloc (.cells M.zero.cells 29)).alloc (.cells M.zero.cells 29) = V at *
  obtain ⟨c0, c1, c2, c3, c4, c5, c6, c7, c8, c9, c10, c11, c12, c13, c14, c15, c16, c17, c18, c19, c20, c21, c22, c23, c24⟩ := b1.cs
  clear c1 c2 c3 c4 c5 c6 c7 c8 c9 c10 c11 c12 c13 c14 c15 c16 c17 c18 c19 c20 c21 c24
  rw [hk] at c0
  have HK := Lib.hid hk
  have B1 := Lib.hid b1
  have B2 := Lib.hid b2
  have B3 := Lib.hid b3
  clear hk b1 b2 b3
  go_upto_region 32 with (first | (refine wpList_built rfl 29 _ rfl (M.cells (k14 m)) (by kernel_rfl) ?_) | (refine wpList_storeM (b := w.heap.size + 1 + 1) (m' := k14 m) rfl _ _ rfl rfl rfl B3.out ?_))
  clear c0 c22 c23
  have b3 := B3.out.put (m' := k14 m)
  have b2 := B2.out.row (g := w.heap.size + 1 + 1) (by omega) (M.cells (k14 m))
  have b1 := B1.out.row (g := w.heap.size + 1 + 1) (by omega) (M.cells (k14 m))
  have bel := below_setRow bel (g := w.heap.size + 1 + 1) (by omega) (M.cells (k14 m))
  clear B1 B2 B3
  generalize V.setRow (w.heap.size + 1 + 1) (M.cells (k14 m)) = V1 at *
  have c0 := b1.cs.c0
  have d0 := b3.cs.c0
  have f0 := b3.frozen 0
  have B1 := Lib.hid b1
  have B2 := Lib.hid b2
  have B3 := Lib.hid b3
  clear b1 b2 b3
  go_upto_region 33 with fail
  have b3 := B3.out.set (i := 0) (v := .int .i64 m.kind) (m' := { k14 m with kind := m.kind }) rfl
  have b2 := B2.out.off (p := ⟨w.heap.size + 1 + 1, 0, none⟩) (by simp) (.int .i64 m.kind)
  have bel := bel.setCell (p := ⟨w.heap.size + 1 + 1, 0, none⟩) (by simp; omega) (.int .i64 m.kind)
  clear B1 B2 B3 c0 d0 f0
  generalize V1.setCell ⟨w.heap.size + 1 + 1, 0, none⟩ (.int .i64 m.kind) = V2 at *
  have B2 := Lib.hid b2
  have B3 := Lib.hid b3
  clear b2 b3
  go_wp2_with (first | (refine wpList_loadM (b := w.heap.size + 1 + 1) (m := { k14 m with kind := m.kind }) rfl _ rfl rfl B3.out ?_) | (refine wpList_storeM (b := w.heap.size + 1) (m' := { k14 m with kind := m.kind }) rfl _ _ rfl rfl rfl B2.out ?_))
  exact bodyPost_ret (v := .tuple #[.agg (M.cells { k14 m with kind := m.kind }), .bool true]) (results_pair (p := 2) (q := 3) (ty := 29) rfl _ _ (w.heap.size + 1) _ rfl (loadVarM (B2.out.put (m' := { k14 m with kind := m.kind }))) (.bool true) rfl) rfl ⟨rfl, below_setRow bel (by omega) _⟩

set_option maxHeartbeats 6400000 in
set_option maxRecDepth 100000 in
theorem own_low (m : M) (w : World) (hk : m.kind < 1) :
    Calls Tryz.prog 52 #[.agg m.cells] w fun e w' => e = .returned (.tuple #[.agg M.zero.cells, .bool false]) ∧ Below w.heap.size w w' := by
  obtain ⟨b1, b2, b3, bel⟩ := start3 w m
  go_enter Tryz.func52, Tryz.ntmps52
  go_upto_region 2 with fail
  change Code.wp _ _ _ _ (((w.alloc (.cells m.cells 29)).alloc (.cells M.zero.cells 29)).alloc (.cells M.zero.cells 29))
  generalize ((w.alloc (.cells m.cells 29)).alloc (.cells M.zero.cells 29)).alloc (.cells M.zero.cells 29) = V at *
  have c0 := b1.cs.c0
  have B2 := Lib.hid b2
  clear b1 b2 b3
  go_wp2_with (first | (refine wpList_built rfl 29 _ rfl M.zero.cells (by kernel_rfl) ?_) | (refine wpList_storeM (b := w.heap.size + 1) (m' := M.zero) rfl _ _ rfl rfl rfl B2.out ?_))
  exact bodyPost_ret (v := .tuple #[.agg M.zero.cells, .bool false]) (results_pair (p := 2) (q := 3) (ty := 29) rfl _ _ (w.heap.size + 1) _ rfl (loadVarM (B2.out.put (m' := M.zero))) (.bool false) rfl) rfl ⟨rfl, below_setRow bel (by omega) _⟩

set_option maxHeartbeats 6400000 in
set_option maxRecDepth 100000 in
theorem own_high (m : M) (w : World) (hk : 14 < m.kind) :
    Calls Tryz.prog 52 #[.agg m.cells] w fun e w' => e = .returned (.tuple #[.agg M.zero.cells, .bool false]) ∧ Below w.heap.size w w' := by
  obtain ⟨b1, b2, b3, bel⟩ := start3 w m
  go_enter Tryz.func52, Tryz.ntmps52
  go_upto_region 2 with fail
  change Code.wp _ _ _ _ (((w.alloc (.cells m.cells 29)).alloc (.cells M.zero.cells 29)).alloc (.cells M.zero.cells 29))
  generalize ((w.alloc (.cells m.cells 29)).alloc (.cells M.zero.cells 29)).alloc (.cells M.zero.cells 29) = V at *
  have c0 := b1.cs.c0
  have B2 := Lib.hid b2
  clear b1 b2 b3
  go_wp2_with (first | (refine wpList_built rfl 29 _ rfl M.zero.cells (by kernel_rfl) ?_) | (refine wpList_storeM (b := w.heap.size + 1) (m' := M.zero) rfl _ _ rfl rfl rfl B2.out ?_))
  exact bodyPost_ret (v := .tuple #[.agg M.zero.cells, .bool false]) (results_pair (p := 2) (q := 3) (ty := 29) rfl _ _ (w.heap.size + 1) _ rfl (loadVarM (B2.out.put (m' := M.zero))) (.bool false) rfl) rfl ⟨rfl, below_setRow bel (by omega) _⟩

end Go.Proofs.YtbfjebfodaoikaaGreatDoor.Own
namespace Go.Proofs.YtbfjebfodaoikaaGreatDoor.RBare
open Go.ChangeShapes Go.WideShapes Go.ChangeAt Go.RowKit
open Go.Proofs.YtbfjebfodaoikaaGreatDoor.Ms
open Go.Proofs.YtbfjebfodaoikaaGreatDoor.Box
open Go.Proofs.YtbfjebfodaoikaaGreatDoor.Same
open Go.Proofs.YtbfjebfodaoikaaGreatDoor.SameP
open Go.Proofs.YtbfjebfodaoikaaGreatDoor.Hs
open Go.Proofs.YtbfjebfodaoikaaGreatDoor.Or
open Go.Proofs.YtbfjebfodaoikaaGreatDoor.RSame
open Go.Proofs.YtbfjebfodaoikaaGreatDoor.Own
set_option linter.unusedVariables false
set_option maxRecDepth 100000

/-- What stays while the copy is filled. -/
def S1 (w : World) (m : M) (W : World) : Prop := Bx W w.heap.size m ∧ Below w.heap.size w W
theorem S1.off {w W : World} {m : M} (h : S1 w m W) (p : Addr) (v : Value) (hp : p.block = w.heap.size + 1) : S1 w m (W.setCell p v) := ⟨h.1.off (by omega) v, h.2.setCell (by omega) v⟩
theorem S1.drew {w W : World} {m : M} (h : S1 w m W) : S1 w m W.drew := ⟨h.1, h.2.drew⟩
theorem Bx_drew {W : World} {b : Nat} {m : M} (h : Bx W b m) : Bx W.drew b m := h
def x0 (m : M) : M := { M.zero with kind := m.kind, sa := m.sa, sl := m.sl, sc := m.sc }
theorem start2 (w : World) (m m' : M) (z : Array Value) (hz : z.size = 25) : S1 w m (((w.alloc (.cells m.cells 29)).alloc (.cells z 29)).setRow (w.heap.size + 1) m'.cells) ∧ Bx (((w.alloc (.cells m.cells 29)).alloc (.cells z 29)).setRow (w.heap.size + 1) m'.cells) (w.heap.size + 1) m' := by
  have h := heap_alloc_new (w.alloc (.cells m.cells 29)) (.cells z 29)
  rw [alloc_size] at h
  exact ⟨⟨((Bx.new w m).old _).row (by omega) _, below_setRow (balloc (balloc (Below.refl _ _) _) _) (by omega) _⟩, setRow_heap _ _ z m'.cells _ _ h⟩

end Go.Proofs.YtbfjebfodaoikaaGreatDoor.RBare
