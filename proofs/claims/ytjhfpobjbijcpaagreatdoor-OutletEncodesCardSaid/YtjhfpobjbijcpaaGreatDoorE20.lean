/-
  Whether a message is bare: the document's answer, kinds 10 11. Condition: lists of at most 2^20 elements.
-/
import Derived.Test.YtjhfpobjbijcpaaGreatDoorE17
namespace Go.Proofs.YtjhfpobjbijcpaaGreatDoor.RBare
open Go.ChangeShapes Go.WideShapes Go.ChangeAt Go.RowKit
open Go.Proofs.YtjhfpobjbijcpaaGreatDoor.Ms
open Go.Proofs.YtjhfpobjbijcpaaGreatDoor.Box
open Go.Proofs.YtjhfpobjbijcpaaGreatDoor.Same
open Go.Proofs.YtjhfpobjbijcpaaGreatDoor.SameP
open Go.Proofs.YtjhfpobjbijcpaaGreatDoor.Hs
open Go.Proofs.YtjhfpobjbijcpaaGreatDoor.Or
open Go.Proofs.YtjhfpobjbijcpaaGreatDoor.RSame
open Go.Proofs.YtjhfpobjbijcpaaGreatDoor.Own
set_option linter.unusedVariables false
set_option maxRecDepth 100000

set_option maxHeartbeats 6400000 in
set_option maxRecDepth 100000 in
theorem rbare_10 (m : M) (w : World) (hk : m.kind = 10) (hm : m.In w) :
    Calls Tryz.prog 54 #[.agg m.cells] w fun e w' => e = .returned (.bool (M.same { k10 m with kind := m.kind } m)) ∧ Below w.heap.size w w' := by
  have HK := Lib.hid hk
  clear hk
  go_enter Tryz.func54, Tryz.ntmps54
  go_upto_region 1 with fail
  have b0 := Bx.new w m
  have hsz := alloc_size w (.cells m.cells 38)
  have c0 := b0.cs.c0
  have c24 := b0.cs.c24
  clear b0
  obtain ⟨hS, bx⟩ := start2 w m (x0 m) M.zero.cells rfl
  have hz := heap_alloc_new (w.alloc (.cells m.cells 38)) (.cells M.zero.cells 38)
  generalize w.alloc (.cells m.cells 38) = V0 at *
  rw [hsz] at hz
  go_upto_region 2 with (first | (refine wpList_built rfl 38 _ rfl (x0 m).cells (by kernel_rfl) ?_) | (change wpList _ _ _ _ _ (V0.alloc (.cells M.zero.cells 38)); refine wpList_storeM (b := w.heap.size + 1) (m := M.zero) (m' := x0 m) rfl _ _ rfl (by first | rfl | (rw [← hsz]; rfl)) rfl hz ?_))
  clear hz c0 c24
  generalize (V0.alloc (.cells M.zero.cells 38)).setRow (w.heap.size + 1) (x0 m).cells = V at *
  clear hsz
  have c0 := hS.1.cs.c0
  rw [HK.out] at c0
  clear V0
  have HX := Lib.hid bx
  have HS := Lib.hid hS
  clear bx hS
  go_upto_region 22 with fail
  clear c0
  refine wp_region_held_drew (S := S1 w m) (by kernel_rfl) HS.out.drew (fun hS => ?_)
  have bx := Bx_drew HX.out
  clear HX HS
  generalize V.drew = W0 at *
  refine H.tk (i := 0) (v := ?v0) ?h0 hS ?_
  case h0 => (intro w hw; go_simp; first | done | (with_reducible rfl))
  try simp only [Act.put, List.setIfInBounds_toArray, List.set_cons_zero, List.set_cons_succ]
  refine H.tk (i := 1) (v := ?v1) ?h1 hS ?_
  case h1 => (intro w hw; have c := (hw.1).cs.c5; go_simp; first | done | (with_reducible rfl))
  try simp only [Act.put, List.setIfInBounds_toArray, List.set_cons_zero, List.set_cons_succ]
  refine H.tk (i := 2) (v := ?v2) ?h2 hS ?_
  case h2 => (intro w hw; go_simp; first | done | (with_reducible rfl))
  try simp only [Act.put, List.setIfInBounds_toArray, List.set_cons_zero, List.set_cons_succ]
  refine H.tk (i := 3) (v := ?v3) ?h3 hS ?_
  case h3 => (intro w hw; have c := (hw.1).cs.c18; go_simp; first | done | (with_reducible rfl))
  try simp only [Act.put, List.setIfInBounds_toArray, List.set_cons_zero, List.set_cons_succ]
  refine H.tk (i := 4) (v := ?v4) ?h4 hS ?_
  case h4 => (intro w hw; go_simp; first | done | (with_reducible rfl))
  try simp only [Act.put, List.setIfInBounds_toArray, List.set_cons_zero, List.set_cons_succ]
  refine H.tk (i := 5) (v := ?v5) ?h5 hS ?_
  case h5 => (intro w hw; have c := (hw.1).cs.c14; go_simp; first | done | (with_reducible rfl))
  try simp only [Act.put, List.setIfInBounds_toArray, List.set_cons_zero, List.set_cons_succ]
  refine H.tk (i := 6) (v := ?v6) ?h6 hS ?_
  case h6 => (intro w hw; go_simp; first | done | (with_reducible rfl))
  try simp only [Act.put, List.setIfInBounds_toArray, List.set_cons_zero, List.set_cons_succ]
  refine H.tk (i := 7) (v := ?v7) ?h7 hS ?_
  case h7 => (intro w hw; have c := (hw.1).cs.c19; go_simp; first | done | (with_reducible rfl))
  try simp only [Act.put, List.setIfInBounds_toArray, List.set_cons_zero, List.set_cons_succ]
  refine H.tk (i := 8) (v := ?v8) ?h8 hS ?_
  case h8 => (intro w hw; go_simp; first | done | (with_reducible rfl))
  try simp only [Act.put, List.setIfInBounds_toArray, List.set_cons_zero, List.set_cons_succ]
  refine wpAnyH_ready (rs := [9]) (by kernel_rfl) (by simp) ?_
  refine AllReadyH.cons rfl (fun K hK => ?_) AllReadyH.nil
  have cx := bx.cell 5 _ rfl
  have fx := bx.frozen 5
  go_simp
  have bx' := bx.set (i := 5) (v := (.int .i64 m.ae)) (m' := { x0 m with ae := m.ae }) rfl
  refine hK.out _ _ (hS.off ⟨w.heap.size + 1, 5, none⟩ (.int .i64 m.ae) rfl) (fun hS' => ?_)
  clear hK K hS bx cx fx
  have hS := hS'
  have bx := bx'
  clear hS' bx'
  generalize World.setCell _ ⟨w.heap.size + 1, 5, none⟩ (.int .i64 m.ae) = W9 at *
  try simp only [Act.put, List.setIfInBounds_toArray, List.set_cons_zero, List.set_cons_succ]
  refine H.tk (i := 10) (v := ?v10) ?h10 hS ?_
  case h10 => (intro w hw; go_simp; first | done | (with_reducible rfl))
  try simp only [Act.put, List.setIfInBounds_toArray, List.set_cons_zero, List.set_cons_succ]
  refine wpAnyH_ready (rs := [11]) (by kernel_rfl) (by simp) ?_
  refine AllReadyH.cons rfl (fun K hK => ?_) AllReadyH.nil
  have cx := bx.cell 18 _ rfl
  have fx := bx.frozen 18
  go_simp
  have bx' := bx.set (i := 18) (v := (.int .i64 m.cost)) (m' := { x0 m with ae := m.ae, cost := m.cost }) rfl
  refine hK.out _ _ (hS.off ⟨w.heap.size + 1, 18, none⟩ (.int .i64 m.cost) rfl) (fun hS' => ?_)
  clear hK K hS bx cx fx
  have hS := hS'
  have bx := bx'
  clear hS' bx'
  generalize World.setCell _ ⟨w.heap.size + 1, 18, none⟩ (.int .i64 m.cost) = W11 at *
  try simp only [Act.put, List.setIfInBounds_toArray, List.set_cons_zero, List.set_cons_succ]
  refine H.tk (i := 12) (v := ?v12) ?h12 hS ?_
  case h12 => (intro w hw; go_simp; first | done | (with_reducible rfl))
  try simp only [Act.put, List.setIfInBounds_toArray, List.set_cons_zero, List.set_cons_succ]
  refine wpAnyH_ready (rs := [13]) (by kernel_rfl) (by simp) ?_
  refine AllReadyH.cons rfl (fun K hK => ?_) AllReadyH.nil
  have cx := bx.cell 14 _ rfl
  have fx := bx.frozen 14
  go_simp
  have bx' := bx.set (i := 14) (v := (.int .i64 m.interval)) (m' := { x0 m with ae := m.ae, cost := m.cost, interval := m.interval }) rfl
  refine hK.out _ _ (hS.off ⟨w.heap.size + 1, 14, none⟩ (.int .i64 m.interval) rfl) (fun hS' => ?_)
  clear hK K hS bx cx fx
  have hS := hS'
  have bx := bx'
  clear hS' bx'
  generalize World.setCell _ ⟨w.heap.size + 1, 14, none⟩ (.int .i64 m.interval) = W13 at *
  try simp only [Act.put, List.setIfInBounds_toArray, List.set_cons_zero, List.set_cons_succ]
  refine H.tk (i := 14) (v := ?v14) ?h14 hS ?_
  case h14 => (intro w hw; go_simp; first | done | (with_reducible rfl))
  try simp only [Act.put, List.setIfInBounds_toArray, List.set_cons_zero, List.set_cons_succ]
  refine wpAnyH_ready (rs := [15]) (by kernel_rfl) (by simp) ?_
  refine AllReadyH.cons rfl (fun K hK => ?_) AllReadyH.nil
  have cx := bx.cell 19 _ rfl
  have fx := bx.frozen 19
  go_simp
  have bx' := bx.set (i := 19) (v := (.string m.addr)) (m' := { x0 m with ae := m.ae, cost := m.cost, interval := m.interval, addr := m.addr }) rfl
  refine hK.out _ _ (hS.off ⟨w.heap.size + 1, 19, none⟩ (.string m.addr) rfl) (fun hS' => ?_)
  clear hK K hS bx cx fx
  have hS := hS'
  have bx := bx'
  clear hS' bx'
  generalize World.setCell _ ⟨w.heap.size + 1, 19, none⟩ (.string m.addr) = W15 at *
  try simp only [Act.put, List.setIfInBounds_toArray, List.set_cons_zero, List.set_cons_succ]
  refine wpAnyH_done (by kernel_rfl) ?_ _
  have HX := Lib.hid bx
  have HS := Lib.hid hS
  clear bx hS
  go_upto_region 31 with fail
  go_wp2_with (first | (refine wpList_loadM (b := w.heap.size + 1) (m := { x0 m with ae := m.ae, cost := m.cost, interval := m.interval, addr := m.addr }) rfl _ rfl rfl HX.out ?_) | (refine wpList_loadM (b := w.heap.size) (m := m) rfl _ rfl rfl HS.out.1 ?_))
  refine (rsame_any ({ x0 m with ae := m.ae, cost := m.cost, interval := m.interval, addr := m.addr }) m _ ⟨DRow.nil _ _, (hm.below HS.out.2).s, (Nat.zero_le _), hm.sl⟩ (hm.below HS.out.2)).mono ?_
  rintro e w' ⟨rfl, hb⟩
  replace hb := bcall HS.out.2 hb
  clear HX HS
  go_wp2
  go_ret
  exact ⟨rfl, hb⟩

set_option maxHeartbeats 6400000 in
set_option maxRecDepth 100000 in
theorem rbare_11 (m : M) (w : World) (hk : m.kind = 11) (hm : m.In w) :
    Calls Tryz.prog 54 #[.agg m.cells] w fun e w' => e = .returned (.bool (M.same { k11 m with kind := m.kind } m)) ∧ Below w.heap.size w w' := by
  have HK := Lib.hid hk
  clear hk
  go_enter Tryz.func54, Tryz.ntmps54
  go_upto_region 1 with fail
  have b0 := Bx.new w m
  have hsz := alloc_size w (.cells m.cells 38)
  have c0 := b0.cs.c0
  have c24 := b0.cs.c24
  clear b0
  obtain ⟨hS, bx⟩ := start2 w m (x0 m) M.zero.cells rfl
  have hz := heap_alloc_new (w.alloc (.cells m.cells 38)) (.cells M.zero.cells 38)
  generalize w.alloc (.cells m.cells 38) = V0 at *
  rw [hsz] at hz
  go_upto_region 2 with (first | (refine wpList_built rfl 38 _ rfl (x0 m).cells (by kernel_rfl) ?_) | (change wpList _ _ _ _ _ (V0.alloc (.cells M.zero.cells 38)); refine wpList_storeM (b := w.heap.size + 1) (m := M.zero) (m' := x0 m) rfl _ _ rfl (by first | rfl | (rw [← hsz]; rfl)) rfl hz ?_))
  clear hz c0 c24
  generalize (V0.alloc (.cells M.zero.cells 38)).setRow (w.heap.size + 1) (x0 m).cells = V at *
  clear hsz
  have c0 := hS.1.cs.c0
  rw [HK.out] at c0
  clear V0
  have HX := Lib.hid bx
  have HS := Lib.hid hS
  clear bx hS
  go_upto_region 24 with fail
  clear c0
  refine wp_region_held_drew (S := S1 w m) (by kernel_rfl) HS.out.drew (fun hS => ?_)
  have bx := Bx_drew HX.out
  clear HX HS
  generalize V.drew = W0 at *
  refine H.tk (i := 0) (v := ?v0) ?h0 hS ?_
  case h0 => (intro w hw; go_simp; first | done | (with_reducible rfl))
  try simp only [Act.put, List.setIfInBounds_toArray, List.set_cons_zero, List.set_cons_succ]
  refine H.tk (i := 1) (v := ?v1) ?h1 hS ?_
  case h1 => (intro w hw; have c := (hw.1).cs.c5; go_simp; first | done | (with_reducible rfl))
  try simp only [Act.put, List.setIfInBounds_toArray, List.set_cons_zero, List.set_cons_succ]
  refine H.tk (i := 2) (v := ?v2) ?h2 hS ?_
  case h2 => (intro w hw; go_simp; first | done | (with_reducible rfl))
  try simp only [Act.put, List.setIfInBounds_toArray, List.set_cons_zero, List.set_cons_succ]
  refine H.tk (i := 3) (v := ?v3) ?h3 hS ?_
  case h3 => (intro w hw; have c := (hw.1).cs.c6; go_simp; first | done | (with_reducible rfl))
  try simp only [Act.put, List.setIfInBounds_toArray, List.set_cons_zero, List.set_cons_succ]
  refine H.tk (i := 4) (v := ?v4) ?h4 hS ?_
  case h4 => (intro w hw; go_simp; first | done | (with_reducible rfl))
  try simp only [Act.put, List.setIfInBounds_toArray, List.set_cons_zero, List.set_cons_succ]
  refine H.tk (i := 5) (v := ?v5) ?h5 hS ?_
  case h5 => (intro w hw; have c := (hw.1).cs.c7; go_simp; first | done | (with_reducible rfl))
  try simp only [Act.put, List.setIfInBounds_toArray, List.set_cons_zero, List.set_cons_succ]
  refine H.tk (i := 6) (v := ?v6) ?h6 hS ?_
  case h6 => (intro w hw; go_simp; first | done | (with_reducible rfl))
  try simp only [Act.put, List.setIfInBounds_toArray, List.set_cons_zero, List.set_cons_succ]
  refine H.tk (i := 7) (v := ?v7) ?h7 hS ?_
  case h7 => (intro w hw; have c := (hw.1).cs.c14; go_simp; first | done | (with_reducible rfl))
  try simp only [Act.put, List.setIfInBounds_toArray, List.set_cons_zero, List.set_cons_succ]
  refine H.tk (i := 8) (v := ?v8) ?h8 hS ?_
  case h8 => (intro w hw; go_simp; first | done | (with_reducible rfl))
  try simp only [Act.put, List.setIfInBounds_toArray, List.set_cons_zero, List.set_cons_succ]
  refine H.tk (i := 9) (v := ?v9) ?h9 hS ?_
  case h9 => (intro w hw; have c := (hw.1).cs.c12; go_simp; first | done | (with_reducible rfl))
  try simp only [Act.put, List.setIfInBounds_toArray, List.set_cons_zero, List.set_cons_succ]
  refine H.tk (i := 10) (v := ?v10) ?h10 hS ?_
  case h10 => (intro w hw; go_simp; first | done | (with_reducible rfl))
  try simp only [Act.put, List.setIfInBounds_toArray, List.set_cons_zero, List.set_cons_succ]
  refine H.tk (i := 11) (v := ?v11) ?h11 hS ?_
  case h11 => (intro w hw; have c := (hw.1).cs.c10; go_simp; first | done | (with_reducible rfl))
  try simp only [Act.put, List.setIfInBounds_toArray, List.set_cons_zero, List.set_cons_succ]
  refine H.tk (i := 12) (v := ?v12) ?h12 hS ?_
  case h12 => (intro w hw; go_simp; first | done | (with_reducible rfl))
  try simp only [Act.put, List.setIfInBounds_toArray, List.set_cons_zero, List.set_cons_succ]
  refine H.tk (i := 13) (v := ?v13) ?h13 hS ?_
  case h13 => (intro w hw; have c := (hw.1).cs.c11; go_simp; first | done | (with_reducible rfl))
  try simp only [Act.put, List.setIfInBounds_toArray, List.set_cons_zero, List.set_cons_succ]
  refine H.tk (i := 14) (v := ?v14) ?h14 hS ?_
  case h14 => (intro w hw; go_simp; first | done | (with_reducible rfl))
  try simp only [Act.put, List.setIfInBounds_toArray, List.set_cons_zero, List.set_cons_succ]
  refine H.tk (i := 15) (v := ?v15) ?h15 hS ?_
  case h15 => (intro w hw; have c := (hw.1).cs.c9; go_simp; first | done | (with_reducible rfl))
  try simp only [Act.put, List.setIfInBounds_toArray, List.set_cons_zero, List.set_cons_succ]
  refine H.tk (i := 16) (v := ?v16) ?h16 hS ?_
  case h16 => (intro w hw; go_simp; first | done | (with_reducible rfl))
  try simp only [Act.put, List.setIfInBounds_toArray, List.set_cons_zero, List.set_cons_succ]
  refine wpAnyH_ready (rs := [17]) (by kernel_rfl) (by simp) ?_
  refine AllReadyH.cons rfl (fun K hK => ?_) AllReadyH.nil
  have cx := bx.cell 5 _ rfl
  have fx := bx.frozen 5
  go_simp
  have bx' := bx.set (i := 5) (v := (.int .i64 m.ae)) (m' := { x0 m with ae := m.ae }) rfl
  refine hK.out _ _ (hS.off ⟨w.heap.size + 1, 5, none⟩ (.int .i64 m.ae) rfl) (fun hS' => ?_)
  clear hK K hS bx cx fx
  have hS := hS'
  have bx := bx'
  clear hS' bx'
  generalize World.setCell _ ⟨w.heap.size + 1, 5, none⟩ (.int .i64 m.ae) = W17 at *
  try simp only [Act.put, List.setIfInBounds_toArray, List.set_cons_zero, List.set_cons_succ]
  refine H.tk (i := 18) (v := ?v18) ?h18 hS ?_
  case h18 => (intro w hw; go_simp; first | done | (with_reducible rfl))
  try simp only [Act.put, List.setIfInBounds_toArray, List.set_cons_zero, List.set_cons_succ]
  refine wpAnyH_ready (rs := [19]) (by kernel_rfl) (by simp) ?_
  refine AllReadyH.cons rfl (fun K hK => ?_) AllReadyH.nil
  have cx := bx.cell 6 _ rfl
  have fx := bx.frozen 6
  go_simp
  have bx' := bx.set (i := 6) (v := (.string m.pfx)) (m' := { x0 m with ae := m.ae, pfx := m.pfx }) rfl
  refine hK.out _ _ (hS.off ⟨w.heap.size + 1, 6, none⟩ (.string m.pfx) rfl) (fun hS' => ?_)
  clear hK K hS bx cx fx
  have hS := hS'
  have bx := bx'
  clear hS' bx'
  generalize World.setCell _ ⟨w.heap.size + 1, 6, none⟩ (.string m.pfx) = W19 at *
  try simp only [Act.put, List.setIfInBounds_toArray, List.set_cons_zero, List.set_cons_succ]
  refine H.tk (i := 20) (v := ?v20) ?h20 hS ?_
  case h20 => (intro w hw; go_simp; first | done | (with_reducible rfl))
  try simp only [Act.put, List.setIfInBounds_toArray, List.set_cons_zero, List.set_cons_succ]
  refine wpAnyH_ready (rs := [21]) (by kernel_rfl) (by simp) ?_
  refine AllReadyH.cons rfl (fun K hK => ?_) AllReadyH.nil
  have cx := bx.cell 7 _ rfl
  have fx := bx.frozen 7
  go_simp
  have bx' := bx.set (i := 7) (v := (.int .i64 m.plen)) (m' := { x0 m with ae := m.ae, pfx := m.pfx, plen := m.plen }) rfl
  refine hK.out _ _ (hS.off ⟨w.heap.size + 1, 7, none⟩ (.int .i64 m.plen) rfl) (fun hS' => ?_)
  clear hK K hS bx cx fx
  have hS := hS'
  have bx := bx'
  clear hS' bx'
  generalize World.setCell _ ⟨w.heap.size + 1, 7, none⟩ (.int .i64 m.plen) = W21 at *
  try simp only [Act.put, List.setIfInBounds_toArray, List.set_cons_zero, List.set_cons_succ]
  refine H.tk (i := 22) (v := ?v22) ?h22 hS ?_
  case h22 => (intro w hw; go_simp; first | done | (with_reducible rfl))
  try simp only [Act.put, List.setIfInBounds_toArray, List.set_cons_zero, List.set_cons_succ]
  refine wpAnyH_ready (rs := [23]) (by kernel_rfl) (by simp) ?_
  refine AllReadyH.cons rfl (fun K hK => ?_) AllReadyH.nil
  have cx := bx.cell 14 _ rfl
  have fx := bx.frozen 14
  go_simp
  have bx' := bx.set (i := 14) (v := (.int .i64 m.interval)) (m' := { x0 m with ae := m.ae, pfx := m.pfx, plen := m.plen, interval := m.interval }) rfl
  refine hK.out _ _ (hS.off ⟨w.heap.size + 1, 14, none⟩ (.int .i64 m.interval) rfl) (fun hS' => ?_)
  clear hK K hS bx cx fx
  have hS := hS'
  have bx := bx'
  clear hS' bx'
  generalize World.setCell _ ⟨w.heap.size + 1, 14, none⟩ (.int .i64 m.interval) = W23 at *
  try simp only [Act.put, List.setIfInBounds_toArray, List.set_cons_zero, List.set_cons_succ]
  refine H.tk (i := 24) (v := ?v24) ?h24 hS ?_
  case h24 => (intro w hw; go_simp; first | done | (with_reducible rfl))
  try simp only [Act.put, List.setIfInBounds_toArray, List.set_cons_zero, List.set_cons_succ]
  refine wpAnyH_ready (rs := [25]) (by kernel_rfl) (by simp) ?_
  refine AllReadyH.cons rfl (fun K hK => ?_) AllReadyH.nil
  have cx := bx.cell 12 _ rfl
  have fx := bx.frozen 12
  go_simp
  have bx' := bx.set (i := 12) (v := (.int .i64 m.seq)) (m' := { x0 m with ae := m.ae, pfx := m.pfx, plen := m.plen, interval := m.interval, seq := m.seq }) rfl
  refine hK.out _ _ (hS.off ⟨w.heap.size + 1, 12, none⟩ (.int .i64 m.seq) rfl) (fun hS' => ?_)
  clear hK K hS bx cx fx
  have hS := hS'
  have bx := bx'
  clear hS' bx'
  generalize World.setCell _ ⟨w.heap.size + 1, 12, none⟩ (.int .i64 m.seq) = W25 at *
  try simp only [Act.put, List.setIfInBounds_toArray, List.set_cons_zero, List.set_cons_succ]
  refine H.tk (i := 26) (v := ?v26) ?h26 hS ?_
  case h26 => (intro w hw; go_simp; first | done | (with_reducible rfl))
  try simp only [Act.put, List.setIfInBounds_toArray, List.set_cons_zero, List.set_cons_succ]
  refine wpAnyH_ready (rs := [27]) (by kernel_rfl) (by simp) ?_
  refine AllReadyH.cons rfl (fun K hK => ?_) AllReadyH.nil
  have cx := bx.cell 10 _ rfl
  have fx := bx.frozen 10
  go_simp
  have bx' := bx.set (i := 10) (v := (.int .i64 m.metric)) (m' := { x0 m with ae := m.ae, pfx := m.pfx, plen := m.plen, interval := m.interval, seq := m.seq, metric := m.metric }) rfl
  refine hK.out _ _ (hS.off ⟨w.heap.size + 1, 10, none⟩ (.int .i64 m.metric) rfl) (fun hS' => ?_)
  clear hK K hS bx cx fx
  have hS := hS'
  have bx := bx'
  clear hS' bx'
  generalize World.setCell _ ⟨w.heap.size + 1, 10, none⟩ (.int .i64 m.metric) = W27 at *
  try simp only [Act.put, List.setIfInBounds_toArray, List.set_cons_zero, List.set_cons_succ]
  refine H.tk (i := 28) (v := ?v28) ?h28 hS ?_
  case h28 => (intro w hw; go_simp; first | done | (with_reducible rfl))
  try simp only [Act.put, List.setIfInBounds_toArray, List.set_cons_zero, List.set_cons_succ]
  refine wpAnyH_ready (rs := [29]) (by kernel_rfl) (by simp) ?_
  refine AllReadyH.cons rfl (fun K hK => ?_) AllReadyH.nil
  have cx := bx.cell 11 _ rfl
  have fx := bx.frozen 11
  go_simp
  have bx' := bx.set (i := 11) (v := (.string m.id)) (m' := { x0 m with ae := m.ae, pfx := m.pfx, plen := m.plen, interval := m.interval, seq := m.seq, metric := m.metric, id := m.id }) rfl
  refine hK.out _ _ (hS.off ⟨w.heap.size + 1, 11, none⟩ (.string m.id) rfl) (fun hS' => ?_)
  clear hK K hS bx cx fx
  have hS := hS'
  have bx := bx'
  clear hS' bx'
  generalize World.setCell _ ⟨w.heap.size + 1, 11, none⟩ (.string m.id) = W29 at *
  try simp only [Act.put, List.setIfInBounds_toArray, List.set_cons_zero, List.set_cons_succ]
  refine H.tk (i := 30) (v := ?v30) ?h30 hS ?_
  case h30 => (intro w hw; go_simp; first | done | (with_reducible rfl))
  try simp only [Act.put, List.setIfInBounds_toArray, List.set_cons_zero, List.set_cons_succ]
  refine wpAnyH_ready (rs := [31]) (by kernel_rfl) (by simp) ?_
  refine AllReadyH.cons rfl (fun K hK => ?_) AllReadyH.nil
  have cx := bx.cell 9 _ rfl
  have fx := bx.frozen 9
  go_simp
  have bx' := bx.set (i := 9) (v := (.string m.next)) (m' := { x0 m with ae := m.ae, pfx := m.pfx, plen := m.plen, interval := m.interval, seq := m.seq, metric := m.metric, id := m.id, next := m.next }) rfl
  refine hK.out _ _ (hS.off ⟨w.heap.size + 1, 9, none⟩ (.string m.next) rfl) (fun hS' => ?_)
  clear hK K hS bx cx fx
  have hS := hS'
  have bx := bx'
  clear hS' bx'
  generalize World.setCell _ ⟨w.heap.size + 1, 9, none⟩ (.string m.next) = W31 at *
  try simp only [Act.put, List.setIfInBounds_toArray, List.set_cons_zero, List.set_cons_succ]
  refine wpAnyH_done (by kernel_rfl) ?_ _
  have HX := Lib.hid bx
  have HS := Lib.hid hS
  clear bx hS
  go_upto_region 31 with fail
  go_wp2_with (first | (refine wpList_loadM (b := w.heap.size + 1) (m := { x0 m with ae := m.ae, pfx := m.pfx, plen := m.plen, interval := m.interval, seq := m.seq, metric := m.metric, id := m.id, next := m.next }) rfl _ rfl rfl HX.out ?_) | (refine wpList_loadM (b := w.heap.size) (m := m) rfl _ rfl rfl HS.out.1 ?_))
  refine (rsame_any ({ x0 m with ae := m.ae, pfx := m.pfx, plen := m.plen, interval := m.interval, seq := m.seq, metric := m.metric, id := m.id, next := m.next }) m _ ⟨DRow.nil _ _, (hm.below HS.out.2).s, (Nat.zero_le _), hm.sl⟩ (hm.below HS.out.2)).mono ?_
  rintro e w' ⟨rfl, hb⟩
  replace hb := bcall HS.out.2 hb
  clear HX HS
  go_wp2
  go_ret
  exact ⟨rfl, hb⟩

end Go.Proofs.YtjhfpobjbijcpaaGreatDoor.RBare
