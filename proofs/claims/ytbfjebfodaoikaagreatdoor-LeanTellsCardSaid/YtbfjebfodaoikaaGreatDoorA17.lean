/-
  A message with the fields of its kind alone: the program's answer, kinds 1 to 4.
  A message with the fields of its kind alone: the program's answer, kinds 5 to 9.
-/
import Derived.Test.YtbfjebfodaoikaaGreatDoorA07
namespace Go.Proofs.YtbfjebfodaoikaaGreatDoor.Own
open Go.ChangeShapes Go.WideShapes Go.ChangeAt Go.RowKit
open Go.Proofs.YtbfjebfodaoikaaGreatDoor.Ms
open Go.Proofs.YtbfjebfodaoikaaGreatDoor.Box
open Go.Proofs.YtbfjebfodaoikaaGreatDoor.Same
open Go.Proofs.YtbfjebfodaoikaaGreatDoor.Or
set_option linter.unusedVariables false
set_option maxRecDepth 100000

set_option maxHeartbeats 6400000 in
set_option maxRecDepth 100000 in
theorem own_1 (m : M) (w : World) (hk : m.kind = 1) :
    Calls Tryz.prog 52 #[.agg m.cells] w fun e w' => e = .returned (.tuple #[.agg (M.cells { k1 m with kind := m.kind }), .bool true]) ∧ Below w.heap.size w w' := by
  obtain ⟨b1, b2, b3, bel⟩ := start3 w m
  go_enter Tryz.func52, Tryz.ntmps52
  go_upto_region 2 with fail
  change Code.wp _ _ _ _ (((w.alloc (.cells m.cells 29)).alloc (.cells M.zero.cells 29)).alloc (.cells M.zero.cells 29))
  generalize ((w.alloc (.cells m.cells 29)).alloc (.cells M.zero.cells 29)).alloc (.cells M.zero.cells 29) = V at *
  obtain ⟨c0, c1, c2, c3, c4, c5, c6, c7, c8, c9, c10, c11, c12, c13, c14, c15, c16, c17, c18, c19, c20, c21, c22, c23, c24⟩ := b1.cs
  clear c5 c11 c12 c13 c14 c15 c16 c17 c18 c19 c20 c21 c22 c23 c24
  rw [hk] at c0
  have HK := Lib.hid hk
  have B1 := Lib.hid b1
  have B2 := Lib.hid b2
  have B3 := Lib.hid b3
  clear hk b1 b2 b3
  go_upto_region 32 with (first | (refine wpList_built rfl 29 _ rfl (M.cells (k1 m)) (by kernel_rfl) ?_) | (refine wpList_storeM (b := w.heap.size + 1 + 1) (m' := k1 m) rfl _ _ rfl rfl rfl B3.out ?_))
  clear c0 c1 c2 c3 c4 c6 c7 c8 c9 c10
  have b3 := B3.out.put (m' := k1 m)
  have b2 := B2.out.row (g := w.heap.size + 1 + 1) (by omega) (M.cells (k1 m))
  have b1 := B1.out.row (g := w.heap.size + 1 + 1) (by omega) (M.cells (k1 m))
  have bel := below_setRow bel (g := w.heap.size + 1 + 1) (by omega) (M.cells (k1 m))
  clear B1 B2 B3
  generalize V.setRow (w.heap.size + 1 + 1) (M.cells (k1 m)) = V1 at *
  have c0 := b1.cs.c0
  have d0 := b3.cs.c0
  have f0 := b3.frozen 0
  have B1 := Lib.hid b1
  have B2 := Lib.hid b2
  have B3 := Lib.hid b3
  clear b1 b2 b3
  go_upto_region 33 with fail
  have b3 := B3.out.set (i := 0) (v := .int .i64 m.kind) (m' := { k1 m with kind := m.kind }) rfl
  have b2 := B2.out.off (p := ⟨w.heap.size + 1 + 1, 0, none⟩) (by simp) (.int .i64 m.kind)
  have bel := bel.setCell (p := ⟨w.heap.size + 1 + 1, 0, none⟩) (by simp; omega) (.int .i64 m.kind)
  clear B1 B2 B3 c0 d0 f0
  generalize V1.setCell ⟨w.heap.size + 1 + 1, 0, none⟩ (.int .i64 m.kind) = V2 at *
  have B2 := Lib.hid b2
  have B3 := Lib.hid b3
  clear b2 b3
  go_wp2_with (first | (refine wpList_loadM (b := w.heap.size + 1 + 1) (m := { k1 m with kind := m.kind }) rfl _ rfl rfl B3.out ?_) | (refine wpList_storeM (b := w.heap.size + 1) (m' := { k1 m with kind := m.kind }) rfl _ _ rfl rfl rfl B2.out ?_))
  exact bodyPost_ret (v := .tuple #[.agg (M.cells { k1 m with kind := m.kind }), .bool true]) (results_pair (p := 2) (q := 3) (ty := 29) rfl _ _ (w.heap.size + 1) _ rfl (loadVarM (B2.out.put (m' := { k1 m with kind := m.kind }))) (.bool true) rfl) rfl ⟨rfl, below_setRow bel (by omega) _⟩

set_option maxHeartbeats 6400000 in
set_option maxRecDepth 100000 in
theorem own_2 (m : M) (w : World) (hk : m.kind = 2) :
    Calls Tryz.prog 52 #[.agg m.cells] w fun e w' => e = .returned (.tuple #[.agg (M.cells { k2 m with kind := m.kind }), .bool true]) ∧ Below w.heap.size w w' := by
  obtain ⟨b1, b2, b3, bel⟩ := start3 w m
  go_enter Tryz.func52, Tryz.ntmps52
  go_upto_region 2 with fail
  change Code.wp _ _ _ _ (((w.alloc (.cells m.cells 29)).alloc (.cells M.zero.cells 29)).alloc (.cells M.zero.cells 29))
  generalize ((w.alloc (.cells m.cells 29)).alloc (.cells M.zero.cells 29)).alloc (.cells M.zero.cells 29) = V at *
  obtain ⟨c0, c1, c2, c3, c4, c5, c6, c7, c8, c9, c10, c11, c12, c13, c14, c15, c16, c17, c18, c19, c20, c21, c22, c23, c24⟩ := b1.cs
  clear c2 c3 c4 c5 c11 c12 c13 c14 c15 c16 c17 c18 c19 c20 c21 c22 c23 c24
  rw [hk] at c0
  have HK := Lib.hid hk
  have B1 := Lib.hid b1
  have B2 := Lib.hid b2
  have B3 := Lib.hid b3
  clear hk b1 b2 b3
  go_upto_region 32 with (first | (refine wpList_built rfl 29 _ rfl (M.cells (k2 m)) (by kernel_rfl) ?_) | (refine wpList_storeM (b := w.heap.size + 1 + 1) (m' := k2 m) rfl _ _ rfl rfl rfl B3.out ?_))
  clear c0 c1 c6 c7 c8 c9 c10
  have b3 := B3.out.put (m' := k2 m)
  have b2 := B2.out.row (g := w.heap.size + 1 + 1) (by omega) (M.cells (k2 m))
  have b1 := B1.out.row (g := w.heap.size + 1 + 1) (by omega) (M.cells (k2 m))
  have bel := below_setRow bel (g := w.heap.size + 1 + 1) (by omega) (M.cells (k2 m))
  clear B1 B2 B3
  generalize V.setRow (w.heap.size + 1 + 1) (M.cells (k2 m)) = V1 at *
  have c0 := b1.cs.c0
  have d0 := b3.cs.c0
  have f0 := b3.frozen 0
  have B1 := Lib.hid b1
  have B2 := Lib.hid b2
  have B3 := Lib.hid b3
  clear b1 b2 b3
  go_upto_region 33 with fail
  have b3 := B3.out.set (i := 0) (v := .int .i64 m.kind) (m' := { k2 m with kind := m.kind }) rfl
  have b2 := B2.out.off (p := ⟨w.heap.size + 1 + 1, 0, none⟩) (by simp) (.int .i64 m.kind)
  have bel := bel.setCell (p := ⟨w.heap.size + 1 + 1, 0, none⟩) (by simp; omega) (.int .i64 m.kind)
  clear B1 B2 B3 c0 d0 f0
  generalize V1.setCell ⟨w.heap.size + 1 + 1, 0, none⟩ (.int .i64 m.kind) = V2 at *
  have B2 := Lib.hid b2
  have B3 := Lib.hid b3
  clear b2 b3
  go_wp2_with (first | (refine wpList_loadM (b := w.heap.size + 1 + 1) (m := { k2 m with kind := m.kind }) rfl _ rfl rfl B3.out ?_) | (refine wpList_storeM (b := w.heap.size + 1) (m' := { k2 m with kind := m.kind }) rfl _ _ rfl rfl rfl B2.out ?_))
  exact bodyPost_ret (v := .tuple #[.agg (M.cells { k2 m with kind := m.kind }), .bool true]) (results_pair (p := 2) (q := 3) (ty := 29) rfl _ _ (w.heap.size + 1) _ rfl (loadVarM (B2.out.put (m' := { k2 m with kind := m.kind }))) (.bool true) rfl) rfl ⟨rfl, below_setRow bel (by omega) _⟩

set_option maxHeartbeats 6400000 in
set_option maxRecDepth 100000 in
theorem own_3 (m : M) (w : World) (hk : m.kind = 3) :
    Calls Tryz.prog 52 #[.agg m.cells] w fun e w' => e = .returned (.tuple #[.agg (M.cells { k3 m with kind := m.kind }), .bool true]) ∧ Below w.heap.size w w' := by
  obtain ⟨b1, b2, b3, bel⟩ := start3 w m
  go_enter Tryz.func52, Tryz.ntmps52
  go_upto_region 2 with fail
  change Code.wp _ _ _ _ (((w.alloc (.cells m.cells 29)).alloc (.cells M.zero.cells 29)).alloc (.cells M.zero.cells 29))
  generalize ((w.alloc (.cells m.cells 29)).alloc (.cells M.zero.cells 29)).alloc (.cells M.zero.cells 29) = V at *
  obtain ⟨c0, c1, c2, c3, c4, c5, c6, c7, c8, c9, c10, c11, c12, c13, c14, c15, c16, c17, c18, c19, c20, c21, c22, c23, c24⟩ := b1.cs
  clear c1 c2 c3 c4 c5 c6 c7 c8 c9 c10 c11 c14 c18 c21 c22 c23
  rw [hk] at c0
  have HK := Lib.hid hk
  have B1 := Lib.hid b1
  have B2 := Lib.hid b2
  have B3 := Lib.hid b3
  clear hk b1 b2 b3
  go_upto_region 32 with (first | (refine wpList_built rfl 29 _ rfl (M.cells (k3 m)) (by kernel_rfl) ?_) | (refine wpList_storeM (b := w.heap.size + 1 + 1) (m' := k3 m) rfl _ _ rfl rfl rfl B3.out ?_))
  clear c0 c12 c13 c15 c16 c17 c19 c20 c24
  have b3 := B3.out.put (m' := k3 m)
  have b2 := B2.out.row (g := w.heap.size + 1 + 1) (by omega) (M.cells (k3 m))
  have b1 := B1.out.row (g := w.heap.size + 1 + 1) (by omega) (M.cells (k3 m))
  have bel := below_setRow bel (g := w.heap.size + 1 + 1) (by omega) (M.cells (k3 m))
  clear B1 B2 B3
  generalize V.setRow (w.heap.size + 1 + 1) (M.cells (k3 m)) = V1 at *
  have c0 := b1.cs.c0
  have d0 := b3.cs.c0
  have f0 := b3.frozen 0
  have B1 := Lib.hid b1
  have B2 := Lib.hid b2
  have B3 := Lib.hid b3
  clear b1 b2 b3
  go_upto_region 33 with fail
  have b3 := B3.out.set (i := 0) (v := .int .i64 m.kind) (m' := { k3 m with kind := m.kind }) rfl
  have b2 := B2.out.off (p := ⟨w.heap.size + 1 + 1, 0, none⟩) (by simp) (.int .i64 m.kind)
  have bel := bel.setCell (p := ⟨w.heap.size + 1 + 1, 0, none⟩) (by simp; omega) (.int .i64 m.kind)
  clear B1 B2 B3 c0 d0 f0
  generalize V1.setCell ⟨w.heap.size + 1 + 1, 0, none⟩ (.int .i64 m.kind) = V2 at *
  have B2 := Lib.hid b2
  have B3 := Lib.hid b3
  clear b2 b3
  go_wp2_with (first | (refine wpList_loadM (b := w.heap.size + 1 + 1) (m := { k3 m with kind := m.kind }) rfl _ rfl rfl B3.out ?_) | (refine wpList_storeM (b := w.heap.size + 1) (m' := { k3 m with kind := m.kind }) rfl _ _ rfl rfl rfl B2.out ?_))
  exact bodyPost_ret (v := .tuple #[.agg (M.cells { k3 m with kind := m.kind }), .bool true]) (results_pair (p := 2) (q := 3) (ty := 29) rfl _ _ (w.heap.size + 1) _ rfl (loadVarM (B2.out.put (m' := { k3 m with kind := m.kind }))) (.bool true) rfl) rfl ⟨rfl, below_setRow bel (by omega) _⟩

set_option maxHeartbeats 6400000 in
set_option maxRecDepth 100000 in
theorem own_4 (m : M) (w : World) (hk : m.kind = 4) :
    Calls Tryz.prog 52 #[.agg m.cells] w fun e w' => e = .returned (.tuple #[.agg (M.cells { k4 m with kind := m.kind }), .bool true]) ∧ Below w.heap.size w w' := by
  obtain ⟨b1, b2, b3, bel⟩ := start3 w m
  go_enter Tryz.func52, Tryz.ntmps52
  go_upto_region 2 with fail
  change Code.wp _ _ _ _ (((w.alloc (.cells m.cells 29)).alloc (.cells M.zero.cells 29)).alloc (.cells M.zero.cells 29))
  generalize ((w.alloc (.cells m.cells 29)).alloc (.cells M.zero.cells 29)).alloc (.cells M.zero.cells 29) = V at *
  obtain ⟨c0, c1, c2, c3, c4, c5, c6, c7, c8, c9, c10, c11, c12, c13, c14, c15, c16, c17, c18, c19, c20, c21, c22, c23, c24⟩ := b1.cs
  clear c1 c2 c3 c4 c5 c6 c8 c9 c10 c11 c13 c17 c18 c21 c22 c23
  rw [hk] at c0
  have HK := Lib.hid hk
  have B1 := Lib.hid b1
  have B2 := Lib.hid b2
  have B3 := Lib.hid b3
  clear hk b1 b2 b3
  go_upto_region 32 with (first | (refine wpList_built rfl 29 _ rfl (M.cells (k4 m)) (by kernel_rfl) ?_) | (refine wpList_storeM (b := w.heap.size + 1 + 1) (m' := k4 m) rfl _ _ rfl rfl rfl B3.out ?_))
  clear c0 c7 c12 c14 c15 c16 c19 c20 c24
  have b3 := B3.out.put (m' := k4 m)
  have b2 := B2.out.row (g := w.heap.size + 1 + 1) (by omega) (M.cells (k4 m))
  have b1 := B1.out.row (g := w.heap.size + 1 + 1) (by omega) (M.cells (k4 m))
  have bel := below_setRow bel (g := w.heap.size + 1 + 1) (by omega) (M.cells (k4 m))
  clear B1 B2 B3
  generalize V.setRow (w.heap.size + 1 + 1) (M.cells (k4 m)) = V1 at *
  have c0 := b1.cs.c0
  have d0 := b3.cs.c0
  have f0 := b3.frozen 0
  have B1 := Lib.hid b1
  have B2 := Lib.hid b2
  have B3 := Lib.hid b3
  clear b1 b2 b3
  go_upto_region 33 with fail
  have b3 := B3.out.set (i := 0) (v := .int .i64 m.kind) (m' := { k4 m with kind := m.kind }) rfl
  have b2 := B2.out.off (p := ⟨w.heap.size + 1 + 1, 0, none⟩) (by simp) (.int .i64 m.kind)
  have bel := bel.setCell (p := ⟨w.heap.size + 1 + 1, 0, none⟩) (by simp; omega) (.int .i64 m.kind)
  clear B1 B2 B3 c0 d0 f0
  generalize V1.setCell ⟨w.heap.size + 1 + 1, 0, none⟩ (.int .i64 m.kind) = V2 at *
  have B2 := Lib.hid b2
  have B3 := Lib.hid b3
  clear b2 b3
  go_wp2_with (first | (refine wpList_loadM (b := w.heap.size + 1 + 1) (m := { k4 m with kind := m.kind }) rfl _ rfl rfl B3.out ?_) | (refine wpList_storeM (b := w.heap.size + 1) (m' := { k4 m with kind := m.kind }) rfl _ _ rfl rfl rfl B2.out ?_))
  exact bodyPost_ret (v := .tuple #[.agg (M.cells { k4 m with kind := m.kind }), .bool true]) (results_pair (p := 2) (q := 3) (ty := 29) rfl _ _ (w.heap.size + 1) _ rfl (loadVarM (B2.out.put (m' := { k4 m with kind := m.kind }))) (.bool true) rfl) rfl ⟨rfl, below_setRow bel (by omega) _⟩

end Go.Proofs.YtbfjebfodaoikaaGreatDoor.Own
namespace Go.Proofs.YtbfjebfodaoikaaGreatDoor.Own
open Go.ChangeShapes Go.WideShapes Go.ChangeAt Go.RowKit
open Go.Proofs.YtbfjebfodaoikaaGreatDoor.Ms
open Go.Proofs.YtbfjebfodaoikaaGreatDoor.Box
open Go.Proofs.YtbfjebfodaoikaaGreatDoor.Same
open Go.Proofs.YtbfjebfodaoikaaGreatDoor.Or
set_option linter.unusedVariables false
set_option maxRecDepth 100000

set_option maxHeartbeats 6400000 in
set_option maxRecDepth 100000 in
theorem own_5 (m : M) (w : World) (hk : m.kind = 5) :
    Calls Tryz.prog 52 #[.agg m.cells] w fun e w' => e = .returned (.tuple #[.agg (M.cells { k5 m with kind := m.kind }), .bool true]) ∧ Below w.heap.size w w' := by
  obtain ⟨b1, b2, b3, bel⟩ := start3 w m
  go_enter Tryz.func52, Tryz.ntmps52
  go_upto_region 2 with fail
  change Code.wp _ _ _ _ (((w.alloc (.cells m.cells 29)).alloc (.cells M.zero.cells 29)).alloc (.cells M.zero.cells 29))
  generalize ((w.alloc (.cells m.cells 29)).alloc (.cells M.zero.cells 29)).alloc (.cells M.zero.cells 29) = V at *
  obtain ⟨c0, c1, c2, c3, c4, c5, c6, c7, c8, c9, c10, c11, c12, c13, c14, c15, c16, c17, c18, c19, c20, c21, c22, c23, c24⟩ := b1.cs
  clear c1 c2 c3 c4 c5 c6 c7 c8 c9 c10 c11 c12 c13 c14 c16 c17 c18 c19 c20 c22 c23
  rw [hk] at c0
  have HK := Lib.hid hk
  have B1 := Lib.hid b1
  have B2 := Lib.hid b2
  have B3 := Lib.hid b3
  clear hk b1 b2 b3
  go_upto_region 32 with (first | (refine wpList_built rfl 29 _ rfl (M.cells (k5 m)) (by kernel_rfl) ?_) | (refine wpList_storeM (b := w.heap.size + 1 + 1) (m' := k5 m) rfl _ _ rfl rfl rfl B3.out ?_))
  clear c0 c15 c21 c24
  have b3 := B3.out.put (m' := k5 m)
  have b2 := B2.out.row (g := w.heap.size + 1 + 1) (by omega) (M.cells (k5 m))
  have b1 := B1.out.row (g := w.heap.size + 1 + 1) (by omega) (M.cells (k5 m))
  have bel := below_setRow bel (g := w.heap.size + 1 + 1) (by omega) (M.cells (k5 m))
  clear B1 B2 B3
  generalize V.setRow (w.heap.size + 1 + 1) (M.cells (k5 m)) = V1 at *
  have c0 := b1.cs.c0
  have d0 := b3.cs.c0
  have f0 := b3.frozen 0
  have B1 := Lib.hid b1
  have B2 := Lib.hid b2
  have B3 := Lib.hid b3
  clear b1 b2 b3
  go_upto_region 33 with fail
  have b3 := B3.out.set (i := 0) (v := .int .i64 m.kind) (m' := { k5 m with kind := m.kind }) rfl
  have b2 := B2.out.off (p := ⟨w.heap.size + 1 + 1, 0, none⟩) (by simp) (.int .i64 m.kind)
  have bel := bel.setCell (p := ⟨w.heap.size + 1 + 1, 0, none⟩) (by simp; omega) (.int .i64 m.kind)
  clear B1 B2 B3 c0 d0 f0
  generalize V1.setCell ⟨w.heap.size + 1 + 1, 0, none⟩ (.int .i64 m.kind) = V2 at *
  have B2 := Lib.hid b2
  have B3 := Lib.hid b3
  clear b2 b3
  go_wp2_with (first | (refine wpList_loadM (b := w.heap.size + 1 + 1) (m := { k5 m with kind := m.kind }) rfl _ rfl rfl B3.out ?_) | (refine wpList_storeM (b := w.heap.size + 1) (m' := { k5 m with kind := m.kind }) rfl _ _ rfl rfl rfl B2.out ?_))
  exact bodyPost_ret (v := .tuple #[.agg (M.cells { k5 m with kind := m.kind }), .bool true]) (results_pair (p := 2) (q := 3) (ty := 29) rfl _ _ (w.heap.size + 1) _ rfl (loadVarM (B2.out.put (m' := { k5 m with kind := m.kind }))) (.bool true) rfl) rfl ⟨rfl, below_setRow bel (by omega) _⟩

set_option maxHeartbeats 6400000 in
set_option maxRecDepth 100000 in
theorem own_6 (m : M) (w : World) (hk : m.kind = 6) :
    Calls Tryz.prog 52 #[.agg m.cells] w fun e w' => e = .returned (.tuple #[.agg (M.cells { k6 m with kind := m.kind }), .bool true]) ∧ Below w.heap.size w w' := by
  obtain ⟨b1, b2, b3, bel⟩ := start3 w m
  go_enter Tryz.func52, Tryz.ntmps52
  go_upto_region 2 with fail
  change Code.wp _ _ _ _ (((w.alloc (.cells m.cells 29)).alloc (.cells M.zero.cells 29)).alloc (.cells M.zero.cells 29))
  generalize ((w.alloc (.cells m.cells 29)).alloc (.cells M.zero.cells 29)).alloc (.cells M.zero.cells 29) = V at *
  obtain ⟨c0, c1, c2, c3, c4, c5, c6, c7, c8, c9, c10, c11, c12, c13, c14, c15, c16, c17, c18, c19, c20, c21, c22, c23, c24⟩ := b1.cs
  clear c1 c2 c3 c4 c5 c6 c7 c8 c9 c10 c11 c12 c13 c14 c15 c16 c17 c18 c19 c20 c21 c22 c23
  rw [hk] at c0
  have HK := Lib.hid hk
  have B1 := Lib.hid b1
  have B2 := Lib.hid b2
  have B3 := Lib.hid b3
  clear hk b1 b2 b3
  go_upto_region 32 with (first | (refine wpList_built rfl 29 _ rfl (M.cells (k6 m)) (by kernel_rfl) ?_) | (refine wpList_storeM (b := w.heap.size + 1 + 1) (m' := k6 m) rfl _ _ rfl rfl rfl B3.out ?_))
  clear c0 c24
  have b3 := B3.out.put (m' := k6 m)
  have b2 := B2.out.row (g := w.heap.size + 1 + 1) (by omega) (M.cells (k6 m))
  have b1 := B1.out.row (g := w.heap.size + 1 + 1) (by omega) (M.cells (k6 m))
  have bel := below_setRow bel (g := w.heap.size + 1 + 1) (by omega) (M.cells (k6 m))
  clear B1 B2 B3
  generalize V.setRow (w.heap.size + 1 + 1) (M.cells (k6 m)) = V1 at *
  have c0 := b1.cs.c0
  have d0 := b3.cs.c0
  have f0 := b3.frozen 0
  have B1 := Lib.hid b1
  have B2 := Lib.hid b2
  have B3 := Lib.hid b3
  clear b1 b2 b3
  go_upto_region 33 with fail
  have b3 := B3.out.set (i := 0) (v := .int .i64 m.kind) (m' := { k6 m with kind := m.kind }) rfl
  have b2 := B2.out.off (p := ⟨w.heap.size + 1 + 1, 0, none⟩) (by simp) (.int .i64 m.kind)
  have bel := bel.setCell (p := ⟨w.heap.size + 1 + 1, 0, none⟩) (by simp; omega) (.int .i64 m.kind)
  clear B1 B2 B3 c0 d0 f0
  generalize V1.setCell ⟨w.heap.size + 1 + 1, 0, none⟩ (.int .i64 m.kind) = V2 at *
  have B2 := Lib.hid b2
  have B3 := Lib.hid b3
  clear b2 b3
  go_wp2_with (first | (refine wpList_loadM (b := w.heap.size + 1 + 1) (m := { k6 m with kind := m.kind }) rfl _ rfl rfl B3.out ?_) | (refine wpList_storeM (b := w.heap.size + 1) (m' := { k6 m with kind := m.kind }) rfl _ _ rfl rfl rfl B2.out ?_))
  exact bodyPost_ret (v := .tuple #[.agg (M.cells { k6 m with kind := m.kind }), .bool true]) (results_pair (p := 2) (q := 3) (ty := 29) rfl _ _ (w.heap.size + 1) _ rfl (loadVarM (B2.out.put (m' := { k6 m with kind := m.kind }))) (.bool true) rfl) rfl ⟨rfl, below_setRow bel (by omega) _⟩

set_option maxHeartbeats 6400000 in
set_option maxRecDepth 100000 in
theorem own_7 (m : M) (w : World) (hk : m.kind = 7) :
    Calls Tryz.prog 52 #[.agg m.cells] w fun e w' => e = .returned (.tuple #[.agg (M.cells { k7 m with kind := m.kind }), .bool true]) ∧ Below w.heap.size w w' := by
  obtain ⟨b1, b2, b3, bel⟩ := start3 w m
  go_enter Tryz.func52, Tryz.ntmps52
  go_upto_region 2 with fail
  change Code.wp _ _ _ _ (((w.alloc (.cells m.cells 29)).alloc (.cells M.zero.cells 29)).alloc (.cells M.zero.cells 29))
  generalize ((w.alloc (.cells m.cells 29)).alloc (.cells M.zero.cells 29)).alloc (.cells M.zero.cells 29) = V at *
  obtain ⟨c0, c1, c2, c3, c4, c5, c6, c7, c8, c9, c10, c11, c12, c13, c14, c15, c16, c17, c18, c19, c20, c21, c22, c23, c24⟩ := b1.cs
  clear c1 c2 c3 c4 c5 c6 c7 c8 c9 c10 c11 c12 c13 c15 c16 c18 c19 c20 c21 c22 c23
  rw [hk] at c0
  have HK := Lib.hid hk
  have B1 := Lib.hid b1
  have B2 := Lib.hid b2
  have B3 := Lib.hid b3
  clear hk b1 b2 b3
  go_upto_region 32 with (first | (refine wpList_built rfl 29 _ rfl (M.cells (k7 m)) (by kernel_rfl) ?_) | (refine wpList_storeM (b := w.heap.size + 1 + 1) (m' := k7 m) rfl _ _ rfl rfl rfl B3.out ?_))
  clear c0 c14 c17 c24
  have b3 := B3.out.put (m' := k7 m)
  have b2 := B2.out.row (g := w.heap.size + 1 + 1) (by omega) (M.cells (k7 m))
  have b1 := B1.out.row (g := w.heap.size + 1 + 1) (by omega) (M.cells (k7 m))
  have bel := below_setRow bel (g := w.heap.size + 1 + 1) (by omega) (M.cells (k7 m))
  clear B1 B2 B3
  generalize V.setRow (w.heap.size + 1 + 1) (M.cells (k7 m)) = V1 at *
  have c0 := b1.cs.c0
  have d0 := b3.cs.c0
  have f0 := b3.frozen 0
  have B1 := Lib.hid b1
  have B2 := Lib.hid b2
  have B3 := Lib.hid b3
  clear b1 b2 b3
  go_upto_region 33 with fail
  have b3 := B3.out.set (i := 0) (v := .int .i64 m.kind) (m' := { k7 m with kind := m.kind }) rfl
  have b2 := B2.out.off (p := ⟨w.heap.size + 1 + 1, 0, none⟩) (by simp) (.int .i64 m.kind)
  have bel := bel.setCell (p := ⟨w.heap.size + 1 + 1, 0, none⟩) (by simp; omega) (.int .i64 m.kind)
  clear B1 B2 B3 c0 d0 f0
  generalize V1.setCell ⟨w.heap.size + 1 + 1, 0, none⟩ (.int .i64 m.kind) = V2 at *
  have B2 := Lib.hid b2
  have B3 := Lib.hid b3
  clear b2 b3
  go_wp2_with (first | (refine wpList_loadM (b := w.heap.size + 1 + 1) (m := { k7 m with kind := m.kind }) rfl _ rfl rfl B3.out ?_) | (refine wpList_storeM (b := w.heap.size + 1) (m' := { k7 m with kind := m.kind }) rfl _ _ rfl rfl rfl B2.out ?_))
  exact bodyPost_ret (v := .tuple #[.agg (M.cells { k7 m with kind := m.kind }), .bool true]) (results_pair (p := 2) (q := 3) (ty := 29) rfl _ _ (w.heap.size + 1) _ rfl (loadVarM (B2.out.put (m' := { k7 m with kind := m.kind }))) (.bool true) rfl) rfl ⟨rfl, below_setRow bel (by omega) _⟩

set_option maxHeartbeats 6400000 in
set_option maxRecDepth 100000 in
theorem own_8 (m : M) (w : World) (hk : m.kind = 8) :
    Calls Tryz.prog 52 #[.agg m.cells] w fun e w' => e = .returned (.tuple #[.agg (M.cells { k8 m with kind := m.kind }), .bool true]) ∧ Below w.heap.size w w' := by
  obtain ⟨b1, b2, b3, bel⟩ := start3 w m
  go_enter Tryz.func52, Tryz.ntmps52
  go_upto_region 2 with fail
  change Code.wp _ _ _ _ (((w.alloc (.cells m.cells 29)).alloc (.cells M.zero.cells 29)).alloc (.cells M.zero.cells 29))
  generalize ((w.alloc (.cells m.cells 29)).alloc (.cells M.zero.cells 29)).alloc (.cells M.zero.cells 29) = V at *
  obtain ⟨c0, c1, c2, c3, c4, c5, c6, c7, c8, c9, c10, c11, c12, c13, c14, c15, c16, c17, c18, c19, c20, c21, c22, c23, c24⟩ := b1.cs
  clear c1 c2 c3 c4 c5 c6 c7 c8 c9 c10 c11 c12 c13 c14 c15 c16 c18 c19 c20 c21 c22 c23
  rw [hk] at c0
  have HK := Lib.hid hk
  have B1 := Lib.hid b1
  have B2 := Lib.hid b2
  have B3 := Lib.hid b3
  clear hk b1 b2 b3
  go_upto_region 32 with (first | (refine wpList_built rfl 29 _ rfl (M.cells (k8 m)) (by kernel_rfl) ?_) | (refine wpList_storeM (b := w.heap.size + 1 + 1) (m' := k8 m) rfl _ _ rfl rfl rfl B3.out ?_))
  clear c0 c17 c24
  have b3 := B3.out.put (m' := k8 m)
  have b2 := B2.out.row (g := w.heap.size + 1 + 1) (by omega) (M.cells (k8 m))
  have b1 := B1.out.row (g := w.heap.size + 1 + 1) (by omega) (M.cells (k8 m))
  have bel := below_setRow bel (g := w.heap.size + 1 + 1) (by omega) (M.cells (k8 m))
  clear B1 B2 B3
  generalize V.setRow (w.heap.size + 1 + 1) (M.cells (k8 m)) = V1 at *
  have c0 := b1.cs.c0
  have d0 := b3.cs.c0
  have f0 := b3.frozen 0
  have B1 := Lib.hid b1
  have B2 := Lib.hid b2
  have B3 := Lib.hid b3
  clear b1 b2 b3
  go_upto_region 33 with fail
  have b3 := B3.out.set (i := 0) (v := .int .i64 m.kind) (m' := { k8 m with kind := m.kind }) rfl
  have b2 := B2.out.off (p := ⟨w.heap.size + 1 + 1, 0, none⟩) (by simp) (.int .i64 m.kind)
  have bel := bel.setCell (p := ⟨w.heap.size + 1 + 1, 0, none⟩) (by simp; omega) (.int .i64 m.kind)
  clear B1 B2 B3 c0 d0 f0
  generalize V1.setCell ⟨w.heap.size + 1 + 1, 0, none⟩ (.int .i64 m.kind) = V2 at *
  have B2 := Lib.hid b2
  have B3 := Lib.hid b3
  clear b2 b3
  go_wp2_with (first | (refine wpList_loadM (b := w.heap.size + 1 + 1) (m := { k8 m with kind := m.kind }) rfl _ rfl rfl B3.out ?_) | (refine wpList_storeM (b := w.heap.size + 1) (m' := { k8 m with kind := m.kind }) rfl _ _ rfl rfl rfl B2.out ?_))
  exact bodyPost_ret (v := .tuple #[.agg (M.cells { k8 m with kind := m.kind }), .bool true]) (results_pair (p := 2) (q := 3) (ty := 29) rfl _ _ (w.heap.size + 1) _ rfl (loadVarM (B2.out.put (m' := { k8 m with kind := m.kind }))) (.bool true) rfl) rfl ⟨rfl, below_setRow bel (by omega) _⟩

set_option maxHeartbeats 6400000 in
set_option maxRecDepth 100000 in
theorem own_9 (m : M) (w : World) (hk : m.kind = 9) :
    Calls Tryz.prog 52 #[.agg m.cells] w fun e w' => e = .returned (.tuple #[.agg (M.cells { k9 m with kind := m.kind }), .bool true]) ∧ Below w.heap.size w w' := by
  obtain ⟨b1, b2, b3, bel⟩ := start3 w m
  go_enter Tryz.func52, Tryz.ntmps52
  go_upto_region 2 with fail
  change Code.wp _ _ _ _ (((w.alloc (.cells m.cells 29)).alloc (.cells M.zero.cells 29)).alloc (.cells M.zero.cells 29))
  generalize ((w.alloc (.cells m.cells 29)).alloc (.cells M.zero.cells 29)).alloc (.cells M.zero.cells 29) = V at *
  obtain ⟨c0, c1, c2, c3, c4, c5, c6, c7, c8, c9, c10, c11, c12, c13, c14, c15, c16, c17, c18, c19, c20, c21, c22, c23, c24⟩ := b1.cs
  clear c1 c2 c3 c4 c5 c6 c7 c8 c9 c10 c11 c13 c16 c17 c18 c19 c20 c21 c22 c23
  rw [hk] at c0
  have HK := Lib.hid hk
  have B1 := Lib.hid b1
  have B2 := Lib.hid b2
  have B3 := Lib.hid b3
  clear hk b1 b2 b3
  go_upto_region 32 with (first | (refine wpList_built rfl 29 _ rfl (M.cells (k9 m)) (by kernel_rfl) ?_) | (refine wpList_storeM (b := w.heap.size + 1 + 1) (m' := k9 m) rfl _ _ rfl rfl rfl B3.out ?_))
  clear c0 c12 c14 c15 c24
  have b3 := B3.out.put (m' := k9 m)
  have b2 := B2.out.row (g := w.heap.size + 1 + 1) (by omega) (M.cells (k9 m))
  have b1 := B1.out.row (g := w.heap.size + 1 + 1) (by omega) (M.cells (k9 m))
  have bel := below_setRow bel (g := w.heap.size + 1 + 1) (by omega) (M.cells (k9 m))
  clear B1 B2 B3
  generalize V.setRow (w.heap.size + 1 + 1) (M.cells (k9 m)) = V1 at *
  have c0 := b1.cs.c0
  have d0 := b3.cs.c0
  have f0 := b3.frozen 0
  have B1 := Lib.hid b1
  have B2 := Lib.hid b2
  have B3 := Lib.hid b3
  clear b1 b2 b3
  go_upto_region 33 with fail
  have b3 := B3.out.set (i := 0) (v := .int .i64 m.kind) (m' := { k9 m with kind := m.kind }) rfl
  have b2 := B2.out.off (p := ⟨w.heap.size + 1 + 1, 0, none⟩) (by simp) (.int .i64 m.kind)
  have bel := bel.setCell (p := ⟨w.heap.size + 1 + 1, 0, none⟩) (by simp; omega) (.int .i64 m.kind)
  clear B1 B2 B3 c0 d0 f0
  generalize V1.setCell ⟨w.heap.size + 1 + 1, 0, none⟩ (.int .i64 m.kind) = V2 at *
  have B2 := Lib.hid b2
  have B3 := Lib.hid b3
  clear b2 b3
  go_wp2_with (first | (refine wpList_loadM (b := w.heap.size + 1 + 1) (m := { k9 m with kind := m.kind }) rfl _ rfl rfl B3.out ?_) | (refine wpList_storeM (b := w.heap.size + 1) (m' := { k9 m with kind := m.kind }) rfl _ _ rfl rfl rfl B2.out ?_))
  exact bodyPost_ret (v := .tuple #[.agg (M.cells { k9 m with kind := m.kind }), .bool true]) (results_pair (p := 2) (q := 3) (ty := 29) rfl _ _ (w.heap.size + 1) _ rfl (loadVarM (B2.out.put (m' := { k9 m with kind := m.kind }))) (.bool true) rfl) rfl ⟨rfl, below_setRow bel (by omega) _⟩

end Go.Proofs.YtbfjebfodaoikaaGreatDoor.Own
