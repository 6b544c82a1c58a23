/-
  Whether a message is bare: the document's answer, kinds 4 5 7 8 9. Condition: lists of at most 2^20 elements.
  Whether a message is bare: the document's answer, kinds 10 11. Condition: lists of at most 2^20 elements.
  Whether a message is bare: the document's answer, kinds 12 13 14. Condition: lists of at most 2^20 elements.
  Whether a message is bare: the program's answer and the document's. Condition: lists of at most 2^20 elements.
-/
import Derived.Test.YteecialdkfaejaaGreatDoorQ06
import Derived.Deep.WholeRow
namespace Go.Proofs.YteecialdkfaejaaGreatDoor.RBare
open Go.ChangeShapes Go.WideShapes Go.ChangeAt Go.RowKit
open Go.Proofs.YteecialdkfaejaaGreatDoor.Ms
open Go.Proofs.YteecialdkfaejaaGreatDoor.Box
open Go.Proofs.YteecialdkfaejaaGreatDoor.Same
open Go.Proofs.YteecialdkfaejaaGreatDoor.SameP
open Go.Proofs.YteecialdkfaejaaGreatDoor.Hs
open Go.Proofs.YteecialdkfaejaaGreatDoor.Or
open Go.Proofs.YteecialdkfaejaaGreatDoor.RSame
open Go.Proofs.YteecialdkfaejaaGreatDoor.Own
set_option linter.unusedVariables false
set_option maxRecDepth 100000

set_option maxHeartbeats 6400000 in
set_option maxRecDepth 100000 in
theorem rbare_4 (m : M) (w : World) (hk : m.kind = 4) (hm : m.In w) :
    Calls Tryz.prog 23 #[.agg m.cells] w fun e w' => e = .returned (.bool (M.same { k4 m with kind := m.kind } m)) ∧ Below w.heap.size w w' := by
  have HK := Lib.hid hk
  clear hk
  go_enter Tryz.func23, Tryz.ntmps23
  go_upto_region 1 with fail
  have b0 := Bx.new w m
  have hsz := alloc_size w (.cells m.cells 31)
  have c0 := b0.cs.c0
  have c24 := b0.cs.c24
  clear b0
  obtain ⟨hS, bx⟩ := start2 w m (x0 m) M.zero.cells rfl
  have hz := heap_alloc_new (w.alloc (.cells m.cells 31)) (.cells M.zero.cells 31)
  generalize w.alloc (.cells m.cells 31) = V0 at *
  rw [hsz] at hz
  go_upto_region 2 with (first | (refine wpList_built rfl 31 _ rfl (x0 m).cells (by kernel_rfl) ?_) | (change wpList _ _ _ _ _ (V0.alloc (.cells M.zero.cells 31)); refine wpList_storeM (b := w.heap.size + 1) (m := M.zero) (m' := x0 m) rfl _ _ rfl (by first | rfl | (rw [← hsz]; rfl)) rfl hz ?_))
  clear hz c0 c24
  generalize (V0.alloc (.cells M.zero.cells 31)).setRow (w.heap.size + 1) (x0 m).cells = V at *
  clear hsz
  have c0 := hS.1.cs.c0
  rw [HK.out] at c0
  clear V0
  have HX := Lib.hid bx
  have HS := Lib.hid hS
  clear bx hS
  go_upto_region 11 with fail
  clear c0
  refine wp_region_held_drew (S := S1 w m) (by kernel_rfl) HS.out.drew (fun hS => ?_)
  have bx := Bx_drew HX.out
  clear HX HS
  generalize V.drew = W0 at *
  refine H.tk (i := 0) (v := ?v0) ?h0 hS ?_
  case h0 => (intro w hw; go_simp; first | done | (with_reducible rfl))
  try simp only [Act.put, List.setIfInBounds_toArray, List.set_cons_zero, List.set_cons_succ]
  refine H.tk (i := 1) (v := ?v1) ?h1 hS ?_
  case h1 => (intro w hw; have c := (hw.1).cs.c15; go_simp; first | done | (with_reducible rfl))
  try simp only [Act.put, List.setIfInBounds_toArray, List.set_cons_zero, List.set_cons_succ]
  refine H.tk (i := 2) (v := ?v2) ?h2 hS ?_
  case h2 => (intro w hw; go_simp; first | done | (with_reducible rfl))
  try simp only [Act.put, List.setIfInBounds_toArray, List.set_cons_zero, List.set_cons_succ]
  refine H.tk (i := 3) (v := ?v3) ?h3 hS ?_
  case h3 => (intro w hw; have c := (hw.1).cs.c7; go_simp; first | done | (with_reducible rfl))
  try simp only [Act.put, List.setIfInBounds_toArray, List.set_cons_zero, List.set_cons_succ]
  refine H.tk (i := 4) (v := ?v4) ?h4 hS ?_
  case h4 => (intro w hw; go_simp; first | done | (with_reducible rfl))
  try simp only [Act.put, List.setIfInBounds_toArray, List.set_cons_zero, List.set_cons_succ]
  refine H.tk (i := 5) (v := ?v5) ?h5 hS ?_
  case h5 => (intro w hw; have c := (hw.1).cs.c16; go_simp; first | done | (with_reducible rfl))
  try simp only [Act.put, List.setIfInBounds_toArray, List.set_cons_zero, List.set_cons_succ]
  refine H.tk (i := 6) (v := ?v6) ?h6 hS ?_
  case h6 => (intro w hw; go_simp; first | done | (with_reducible rfl))
  try simp only [Act.put, List.setIfInBounds_toArray, List.set_cons_zero, List.set_cons_succ]
  refine H.tk (i := 7) (v := ?v7) ?h7 hS ?_
  case h7 => (intro w hw; have c := (hw.1).cs.c19; go_simp; first | done | (with_reducible rfl))
  try simp only [Act.put, List.setIfInBounds_toArray, List.set_cons_zero, List.set_cons_succ]
  refine H.tk (i := 8) (v := ?v8) ?h8 hS ?_
  case h8 => (intro w hw; go_simp; first | done | (with_reducible rfl))
  try simp only [Act.put, List.setIfInBounds_toArray, List.set_cons_zero, List.set_cons_succ]
  refine H.tk (i := 9) (v := ?v9) ?h9 hS ?_
  case h9 => (intro w hw; have c := (hw.1).cs.c12; go_simp; first | done | (with_reducible rfl))
  try simp only [Act.put, List.setIfInBounds_toArray, List.set_cons_zero, List.set_cons_succ]
  refine H.tk (i := 10) (v := ?v10) ?h10 hS ?_
  case h10 => (intro w hw; go_simp; first | done | (with_reducible rfl))
  try simp only [Act.put, List.setIfInBounds_toArray, List.set_cons_zero, List.set_cons_succ]
  refine H.tk (i := 11) (v := ?v11) ?h11 hS ?_
  case h11 => (intro w hw; have c := (hw.1).cs.c20; go_simp; first | done | (with_reducible rfl))
  try simp only [Act.put, List.setIfInBounds_toArray, List.set_cons_zero, List.set_cons_succ]
  refine H.tk (i := 12) (v := ?v12) ?h12 hS ?_
  case h12 => (intro w hw; go_simp; first | done | (with_reducible rfl))
  try simp only [Act.put, List.setIfInBounds_toArray, List.set_cons_zero, List.set_cons_succ]
  refine H.tk (i := 13) (v := ?v13) ?h13 hS ?_
  case h13 => (intro w hw; have c := (hw.1).cs.c14; go_simp; first | done | (with_reducible rfl))
  try simp only [Act.put, List.setIfInBounds_toArray, List.set_cons_zero, List.set_cons_succ]
  refine H.tk (i := 14) (v := ?v14) ?h14 hS ?_
  case h14 => (intro w hw; go_simp; first | done | (with_reducible rfl))
  try simp only [Act.put, List.setIfInBounds_toArray, List.set_cons_zero, List.set_cons_succ]
  refine wpAnyH_ready (rs := [15]) (by kernel_rfl) (by simp) ?_
  refine AllReadyH.cons rfl (fun K hK => ?_) AllReadyH.nil
  have cx := bx.cell 15 _ rfl
  have fx := bx.frozen 15
  go_simp
  have bx' := bx.set (i := 15) (v := (.int .i64 m.flags)) (m' := { x0 m with flags := m.flags }) rfl
  refine hK.out _ _ (hS.off ⟨w.heap.size + 1, 15, none⟩ (.int .i64 m.flags) rfl) (fun hS' => ?_)
  clear hK K hS bx cx fx
  have hS := hS'
  have bx := bx'
  clear hS' bx'
  generalize World.setCell _ ⟨w.heap.size + 1, 15, none⟩ (.int .i64 m.flags) = W15 at *
  try simp only [Act.put, List.setIfInBounds_toArray, List.set_cons_zero, List.set_cons_succ]
  refine H.tk (i := 16) (v := ?v16) ?h16 hS ?_
  case h16 => (intro w hw; go_simp; first | done | (with_reducible rfl))
  try simp only [Act.put, List.setIfInBounds_toArray, List.set_cons_zero, List.set_cons_succ]
  refine wpAnyH_ready (rs := [17]) (by kernel_rfl) (by simp) ?_
  refine AllReadyH.cons rfl (fun K hK => ?_) AllReadyH.nil
  have cx := bx.cell 7 _ rfl
  have fx := bx.frozen 7
  go_simp
  have bx' := bx.set (i := 7) (v := (.int .i64 m.plen)) (m' := { x0 m with flags := m.flags, plen := m.plen }) rfl
  refine hK.out _ _ (hS.off ⟨w.heap.size + 1, 7, none⟩ (.int .i64 m.plen) rfl) (fun hS' => ?_)
  clear hK K hS bx cx fx
  have hS := hS'
  have bx := bx'
  clear hS' bx'
  generalize World.setCell _ ⟨w.heap.size + 1, 7, none⟩ (.int .i64 m.plen) = W17 at *
  try simp only [Act.put, List.setIfInBounds_toArray, List.set_cons_zero, List.set_cons_succ]
  refine H.tk (i := 18) (v := ?v18) ?h18 hS ?_
  case h18 => (intro w hw; go_simp; first | done | (with_reducible rfl))
  try simp only [Act.put, List.setIfInBounds_toArray, List.set_cons_zero, List.set_cons_succ]
  refine wpAnyH_ready (rs := [19]) (by kernel_rfl) (by simp) ?_
  refine AllReadyH.cons rfl (fun K hK => ?_) AllReadyH.nil
  have cx := bx.cell 16 _ rfl
  have fx := bx.frozen 16
  go_simp
  have bx' := bx.set (i := 16) (v := (.int .i64 m.hops)) (m' := { x0 m with flags := m.flags, plen := m.plen, hops := m.hops }) rfl
  refine hK.out _ _ (hS.off ⟨w.heap.size + 1, 16, none⟩ (.int .i64 m.hops) rfl) (fun hS' => ?_)
  clear hK K hS bx cx fx
  have hS := hS'
  have bx := bx'
  clear hS' bx'
  generalize World.setCell _ ⟨w.heap.size + 1, 16, none⟩ (.int .i64 m.hops) = W19 at *
  try simp only [Act.put, List.setIfInBounds_toArray, List.set_cons_zero, List.set_cons_succ]
  refine H.tk (i := 20) (v := ?v20) ?h20 hS ?_
  case h20 => (intro w hw; go_simp; first | done | (with_reducible rfl))
  try simp only [Act.put, List.setIfInBounds_toArray, List.set_cons_zero, List.set_cons_succ]
  refine wpAnyH_ready (rs := [21]) (by kernel_rfl) (by simp) ?_
  refine AllReadyH.cons rfl (fun K hK => ?_) AllReadyH.nil
  have cx := bx.cell 19 _ rfl
  have fx := bx.frozen 19
  go_simp
  have bx' := bx.set (i := 19) (v := (.string m.addr)) (m' := { x0 m with flags := m.flags, plen := m.plen, hops := m.hops, addr := m.addr }) rfl
  refine hK.out _ _ (hS.off ⟨w.heap.size + 1, 19, none⟩ (.string m.addr) rfl) (fun hS' => ?_)
  clear hK K hS bx cx fx
  have hS := hS'
  have bx := bx'
  clear hS' bx'
  generalize World.setCell _ ⟨w.heap.size + 1, 19, none⟩ (.string m.addr) = W21 at *
  try simp only [Act.put, List.setIfInBounds_toArray, List.set_cons_zero, List.set_cons_succ]
  refine H.tk (i := 22) (v := ?v22) ?h22 hS ?_
  case h22 => (intro w hw; go_simp; first | done | (with_reducible rfl))
  try simp only [Act.put, List.setIfInBounds_toArray, List.set_cons_zero, List.set_cons_succ]
  refine wpAnyH_ready (rs := [23]) (by kernel_rfl) (by simp) ?_
  refine AllReadyH.cons rfl (fun K hK => ?_) AllReadyH.nil
  have cx := bx.cell 12 _ rfl
  have fx := bx.frozen 12
  go_simp
  have bx' := bx.set (i := 12) (v := (.int .i64 m.seq)) (m' := { x0 m with flags := m.flags, plen := m.plen, hops := m.hops, addr := m.addr, seq := m.seq }) rfl
  refine hK.out _ _ (hS.off ⟨w.heap.size + 1, 12, none⟩ (.int .i64 m.seq) rfl) (fun hS' => ?_)
  clear hK K hS bx cx fx
  have hS := hS'
  have bx := bx'
  clear hS' bx'
  generalize World.setCell _ ⟨w.heap.size + 1, 12, none⟩ (.int .i64 m.seq) = W23 at *
  try simp only [Act.put, List.setIfInBounds_toArray, List.set_cons_zero, List.set_cons_succ]
  refine H.tk (i := 24) (v := ?v24) ?h24 hS ?_
  case h24 => (intro w hw; go_simp; first | done | (with_reducible rfl))
  try simp only [Act.put, List.setIfInBounds_toArray, List.set_cons_zero, List.set_cons_succ]
  refine wpAnyH_ready (rs := [25]) (by kernel_rfl) (by simp) ?_
  refine AllReadyH.cons rfl (fun K hK => ?_) AllReadyH.nil
  have cx := bx.cell 20 _ rfl
  have fx := bx.frozen 20
  go_simp
  have bx' := bx.set (i := 20) (v := (.string m.orig)) (m' := { x0 m with flags := m.flags, plen := m.plen, hops := m.hops, addr := m.addr, seq := m.seq, orig := m.orig }) rfl
  refine hK.out _ _ (hS.off ⟨w.heap.size + 1, 20, none⟩ (.string m.orig) rfl) (fun hS' => ?_)
  clear hK K hS bx cx fx
  have hS := hS'
  have bx := bx'
  clear hS' bx'
  generalize World.setCell _ ⟨w.heap.size + 1, 20, none⟩ (.string m.orig) = W25 at *
  try simp only [Act.put, List.setIfInBounds_toArray, List.set_cons_zero, List.set_cons_succ]
  refine H.tk (i := 26) (v := ?v26) ?h26 hS ?_
  case h26 => (intro w hw; go_simp; first | done | (with_reducible rfl))
  try simp only [Act.put, List.setIfInBounds_toArray, List.set_cons_zero, List.set_cons_succ]
  refine wpAnyH_ready (rs := [27]) (by kernel_rfl) (by simp) ?_
  refine AllReadyH.cons rfl (fun K hK => ?_) AllReadyH.nil
  have cx := bx.cell 14 _ rfl
  have fx := bx.frozen 14
  go_simp
  have bx' := bx.set (i := 14) (v := (.int .i64 m.interval)) (m' := { x0 m with flags := m.flags, plen := m.plen, hops := m.hops, addr := m.addr, seq := m.seq, orig := m.orig, interval := m.interval }) rfl
  refine hK.out _ _ (hS.off ⟨w.heap.size + 1, 14, none⟩ (.int .i64 m.interval) rfl) (fun hS' => ?_)
  clear hK K hS bx cx fx
  have hS := hS'
  have bx := bx'
  clear hS' bx'
  generalize World.setCell _ ⟨w.heap.size + 1, 14, none⟩ (.int .i64 m.interval) = W27 at *
  try simp only [Act.put, List.setIfInBounds_toArray, List.set_cons_zero, List.set_cons_succ]
  refine wpAnyH_done (by kernel_rfl) ?_ _
  have HX := Lib.hid bx
  have HS := Lib.hid hS
  clear bx hS
  go_upto_region 31 with fail
  go_wp2_with (first | (refine wpList_loadM (b := w.heap.size + 1) (m := { x0 m with flags := m.flags, plen := m.plen, hops := m.hops, addr := m.addr, seq := m.seq, orig := m.orig, interval := m.interval }) rfl _ rfl rfl HX.out ?_) | (refine wpList_loadM (b := w.heap.size) (m := m) rfl _ rfl rfl HS.out.1 ?_))
  refine (rsame_any ({ x0 m with flags := m.flags, plen := m.plen, hops := m.hops, addr := m.addr, seq := m.seq, orig := m.orig, interval := m.interval }) m _ ⟨DRow.nil _ _, (hm.below HS.out.2).s, (Nat.zero_le _), hm.sl⟩ (hm.below HS.out.2)).mono ?_
  rintro e w' ⟨rfl, hb⟩
  replace hb := bcall HS.out.2 hb
  clear HX HS
  go_wp2
  go_ret
  exact ⟨rfl, hb⟩

set_option maxHeartbeats 6400000 in
set_option maxRecDepth 100000 in
theorem rbare_5 (m : M) (w : World) (hk : m.kind = 5) (hm : m.In w) :
    Calls Tryz.prog 23 #[.agg m.cells] w fun e w' => e = .returned (.bool (M.same { k5 m with kind := m.kind } m)) ∧ Below w.heap.size w w' := by
  have HK := Lib.hid hk
  clear hk
  go_enter Tryz.func23, Tryz.ntmps23
  go_upto_region 1 with fail
  have b0 := Bx.new w m
  have hsz := alloc_size w (.cells m.cells 31)
  have c0 := b0.cs.c0
  have c24 := b0.cs.c24
  clear b0
  obtain ⟨hS, bx⟩ := start2 w m (x0 m) M.zero.cells rfl
  have hz := heap_alloc_new (w.alloc (.cells m.cells 31)) (.cells M.zero.cells 31)
  generalize w.alloc (.cells m.cells 31) = V0 at *
  rw [hsz] at hz
  go_upto_region 2 with (first | (refine wpList_built rfl 31 _ rfl (x0 m).cells (by kernel_rfl) ?_) | (change wpList _ _ _ _ _ (V0.alloc (.cells M.zero.cells 31)); refine wpList_storeM (b := w.heap.size + 1) (m := M.zero) (m' := x0 m) rfl _ _ rfl (by first | rfl | (rw [← hsz]; rfl)) rfl hz ?_))
  clear hz c0 c24
  generalize (V0.alloc (.cells M.zero.cells 31)).setRow (w.heap.size + 1) (x0 m).cells = V at *
  clear hsz
  have c0 := hS.1.cs.c0
  rw [HK.out] at c0
  clear V0
  have HX := Lib.hid bx
  have HS := Lib.hid hS
  clear bx hS
  go_upto_region 13 with fail
  clear c0
  refine wp_region_held_drew (S := S1 w m) (by kernel_rfl) HS.out.drew (fun hS => ?_)
  have bx := Bx_drew HX.out
  clear HX HS
  generalize V.drew = W0 at *
  refine H.tk (i := 0) (v := ?v0) ?h0 hS ?_
  case h0 => (intro w hw; go_simp; first | done | (with_reducible rfl))
  try simp only [Act.put, List.setIfInBounds_toArray, List.set_cons_zero, List.set_cons_succ]
  refine H.tk (i := 1) (v := ?v1) ?h1 hS ?_
  case h1 => (intro w hw; have c := (hw.1).cs.c15; go_simp; first | done | (with_reducible rfl))
  try simp only [Act.put, List.setIfInBounds_toArray, List.set_cons_zero, List.set_cons_succ]
  refine H.tk (i := 2) (v := ?v2) ?h2 hS ?_
  case h2 => (intro w hw; go_simp; first | done | (with_reducible rfl))
  try simp only [Act.put, List.setIfInBounds_toArray, List.set_cons_zero, List.set_cons_succ]
  refine H.tk (i := 3) (v := ?v3) ?h3 hS ?_
  case h3 => (intro w hw; have c := (hw.1).cs.c21; go_simp; first | done | (with_reducible rfl))
  try simp only [Act.put, List.setIfInBounds_toArray, List.set_cons_zero, List.set_cons_succ]
  refine H.tk (i := 4) (v := ?v4) ?h4 hS ?_
  case h4 => (intro w hw; go_simp; first | done | (with_reducible rfl))
  try simp only [Act.put, List.setIfInBounds_toArray, List.set_cons_zero, List.set_cons_succ]
  refine wpAnyH_ready (rs := [5]) (by kernel_rfl) (by simp) ?_
  refine AllReadyH.cons rfl (fun K hK => ?_) AllReadyH.nil
  have cx := bx.cell 15 _ rfl
  have fx := bx.frozen 15
  go_simp
  have bx' := bx.set (i := 15) (v := (.int .i64 m.flags)) (m' := { x0 m with flags := m.flags }) rfl
  refine hK.out _ _ (hS.off ⟨w.heap.size + 1, 15, none⟩ (.int .i64 m.flags) rfl) (fun hS' => ?_)
  clear hK K hS bx cx fx
  have hS := hS'
  have bx := bx'
  clear hS' bx'
  generalize World.setCell _ ⟨w.heap.size + 1, 15, none⟩ (.int .i64 m.flags) = W5 at *
  try simp only [Act.put, List.setIfInBounds_toArray, List.set_cons_zero, List.set_cons_succ]
  refine H.tk (i := 6) (v := ?v6) ?h6 hS ?_
  case h6 => (intro w hw; go_simp; first | done | (with_reducible rfl))
  try simp only [Act.put, List.setIfInBounds_toArray, List.set_cons_zero, List.set_cons_succ]
  refine wpAnyH_ready (rs := [7]) (by kernel_rfl) (by simp) ?_
  refine AllReadyH.cons rfl (fun K hK => ?_) AllReadyH.nil
  have cx := bx.cell 21 _ rfl
  have fx := bx.frozen 21
  go_simp
  have bx' := bx.set (i := 21) (v := (.slice m.la m.ll.length m.lc)) (m' := { x0 m with flags := m.flags, la := m.la, ll := m.ll, lc := m.lc }) rfl
  refine hK.out _ _ (hS.off ⟨w.heap.size + 1, 21, none⟩ (.slice m.la m.ll.length m.lc) rfl) (fun hS' => ?_)
  clear hK K hS bx cx fx
  have hS := hS'
  have bx := bx'
  clear hS' bx'
  generalize World.setCell _ ⟨w.heap.size + 1, 21, none⟩ (.slice m.la m.ll.length m.lc) = W7 at *
  try simp only [Act.put, List.setIfInBounds_toArray, List.set_cons_zero, List.set_cons_succ]
  refine wpAnyH_done (by kernel_rfl) ?_ _
  have HX := Lib.hid bx
  have HS := Lib.hid hS
  clear bx hS
  go_upto_region 31 with fail
  go_wp2_with (first | (refine wpList_loadM (b := w.heap.size + 1) (m := { x0 m with flags := m.flags, la := m.la, ll := m.ll, lc := m.lc }) rfl _ rfl rfl HX.out ?_) | (refine wpList_loadM (b := w.heap.size) (m := m) rfl _ rfl rfl HS.out.1 ?_))
  refine (rsame_any ({ x0 m with flags := m.flags, la := m.la, ll := m.ll, lc := m.lc }) m _ ⟨(hm.below HS.out.2).d, (hm.below HS.out.2).s, hm.dl, hm.sl⟩ (hm.below HS.out.2)).mono ?_
  rintro e w' ⟨rfl, hb⟩
  replace hb := bcall HS.out.2 hb
  clear HX HS
  go_wp2
  go_ret
  exact ⟨rfl, hb⟩

set_option maxHeartbeats 6400000 in
set_option maxRecDepth 100000 in
theorem rbare_7 (m : M) (w : World) (hk : m.kind = 7) (hm : m.In w) :
    Calls Tryz.prog 23 #[.agg m.cells] w fun e w' => e = .returned (.bool (M.same { k7 m with kind := m.kind } m)) ∧ Below w.heap.size w w' := by
  have HK := Lib.hid hk
  clear hk
  go_enter Tryz.func23, Tryz.ntmps23
  go_upto_region 1 with fail
  have b0 := Bx.new w m
  have hsz := alloc_size w (.cells m.cells 31)
  have c0 := b0.cs.c0
  have c24 := b0.cs.c24
  clear b0
  obtain ⟨hS, bx⟩ := start2 w m (x0 m) M.zero.cells rfl
  have hz := heap_alloc_new (w.alloc (.cells m.cells 31)) (.cells M.zero.cells 31)
  generalize w.alloc (.cells m.cells 31) = V0 at *
  rw [hsz] at hz
  go_upto_region 2 with (first | (refine wpList_built rfl 31 _ rfl (x0 m).cells (by kernel_rfl) ?_) | (change wpList _ _ _ _ _ (V0.alloc (.cells M.zero.cells 31)); refine wpList_storeM (b := w.heap.size + 1) (m := M.zero) (m' := x0 m) rfl _ _ rfl (by first | rfl | (rw [← hsz]; rfl)) rfl hz ?_))
  clear hz c0 c24
  generalize (V0.alloc (.cells M.zero.cells 31)).setRow (w.heap.size + 1) (x0 m).cells = V at *
  clear hsz
  have c0 := hS.1.cs.c0
  rw [HK.out] at c0
  clear V0
  have HX := Lib.hid bx
  have HS := Lib.hid hS
  clear bx hS
  go_upto_region 16 with fail
  clear c0
  refine wp_region_held_drew (S := S1 w m) (by kernel_rfl) HS.out.drew (fun hS => ?_)
  have bx := Bx_drew HX.out
  clear HX HS
  generalize V.drew = W0 at *
  refine H.tk (i := 0) (v := ?v0) ?h0 hS ?_
  case h0 => (intro w hw; go_simp; first | done | (with_reducible rfl))
  try simp only [Act.put, List.setIfInBounds_toArray, List.set_cons_zero, List.set_cons_succ]
  refine H.tk (i := 1) (v := ?v1) ?h1 hS ?_
  case h1 => (intro w hw; have c := (hw.1).cs.c17; go_simp; first | done | (with_reducible rfl))
  try simp only [Act.put, List.setIfInBounds_toArray, List.set_cons_zero, List.set_cons_succ]
  refine H.tk (i := 2) (v := ?v2) ?h2 hS ?_
  case h2 => (intro w hw; go_simp; first | done | (with_reducible rfl))
  try simp only [Act.put, List.setIfInBounds_toArray, List.set_cons_zero, List.set_cons_succ]
  refine H.tk (i := 3) (v := ?v3) ?h3 hS ?_
  case h3 => (intro w hw; have c := (hw.1).cs.c14; go_simp; first | done | (with_reducible rfl))
  try simp only [Act.put, List.setIfInBounds_toArray, List.set_cons_zero, List.set_cons_succ]
  refine H.tk (i := 4) (v := ?v4) ?h4 hS ?_
  case h4 => (intro w hw; go_simp; first | done | (with_reducible rfl))
  try simp only [Act.put, List.setIfInBounds_toArray, List.set_cons_zero, List.set_cons_succ]
  refine wpAnyH_ready (rs := [5]) (by kernel_rfl) (by simp) ?_
  refine AllReadyH.cons rfl (fun K hK => ?_) AllReadyH.nil
  have cx := bx.cell 17 _ rfl
  have fx := bx.frozen 17
  go_simp
  have bx' := bx.set (i := 17) (v := (.int .i64 m.nonce)) (m' := { x0 m with nonce := m.nonce }) rfl
  refine hK.out _ _ (hS.off ⟨w.heap.size + 1, 17, none⟩ (.int .i64 m.nonce) rfl) (fun hS' => ?_)
  clear hK K hS bx cx fx
  have hS := hS'
  have bx := bx'
  clear hS' bx'
  generalize World.setCell _ ⟨w.heap.size + 1, 17, none⟩ (.int .i64 m.nonce) = W5 at *
  try simp only [Act.put, List.setIfInBounds_toArray, List.set_cons_zero, List.set_cons_succ]
  refine H.tk (i := 6) (v := ?v6) ?h6 hS ?_
  case h6 => (intro w hw; go_simp; first | done | (with_reducible rfl))
  try simp only [Act.put, List.setIfInBounds_toArray, List.set_cons_zero, List.set_cons_succ]
  refine wpAnyH_ready (rs := [7]) (by kernel_rfl) (by simp) ?_
  refine AllReadyH.cons rfl (fun K hK => ?_) AllReadyH.nil
  have cx := bx.cell 14 _ rfl
  have fx := bx.frozen 14
  go_simp
  have bx' := bx.set (i := 14) (v := (.int .i64 m.interval)) (m' := { x0 m with nonce := m.nonce, interval := m.interval }) rfl
  refine hK.out _ _ (hS.off ⟨w.heap.size + 1, 14, none⟩ (.int .i64 m.interval) rfl) (fun hS' => ?_)
  clear hK K hS bx cx fx
  have hS := hS'
  have bx := bx'
  clear hS' bx'
  generalize World.setCell _ ⟨w.heap.size + 1, 14, none⟩ (.int .i64 m.interval) = W7 at *
  try simp only [Act.put, List.setIfInBounds_toArray, List.set_cons_zero, List.set_cons_succ]
  refine wpAnyH_done (by kernel_rfl) ?_ _
  have HX := Lib.hid bx
  have HS := Lib.hid hS
  clear bx hS
  go_upto_region 31 with fail
  go_wp2_with (first | (refine wpList_loadM (b := w.heap.size + 1) (m := { x0 m with nonce := m.nonce, interval := m.interval }) rfl _ rfl rfl HX.out ?_) | (refine wpList_loadM (b := w.heap.size) (m := m) rfl _ rfl rfl HS.out.1 ?_))
  refine (rsame_any ({ x0 m with nonce := m.nonce, interval := m.interval }) m _ ⟨DRow.nil _ _, (hm.below HS.out.2).s, (Nat.zero_le _), hm.sl⟩ (hm.below HS.out.2)).mono ?_
  rintro e w' ⟨rfl, hb⟩
  replace hb := bcall HS.out.2 hb
  clear HX HS
  go_wp2
  go_ret
  exact ⟨rfl, hb⟩

set_option maxHeartbeats 6400000 in
set_option maxRecDepth 100000 in
theorem rbare_8 (m : M) (w : World) (hk : m.kind = 8) (hm : m.In w) :
    Calls Tryz.prog 23 #[.agg m.cells] w fun e w' => e = .returned (.bool (M.same { k8 m with kind := m.kind } m)) ∧ Below w.heap.size w w' := by
  have HK := Lib.hid hk
  clear hk
  go_enter Tryz.func23, Tryz.ntmps23
  go_upto_region 1 with fail
  have b0 := Bx.new w m
  have hsz := alloc_size w (.cells m.cells 31)
  have c0 := b0.cs.c0
  have c24 := b0.cs.c24
  clear b0
  obtain ⟨hS, bx⟩ := start2 w m (x0 m) M.zero.cells rfl
  have hz := heap_alloc_new (w.alloc (.cells m.cells 31)) (.cells M.zero.cells 31)
  generalize w.alloc (.cells m.cells 31) = V0 at *
  rw [hsz] at hz
  go_upto_region 2 with (first | (refine wpList_built rfl 31 _ rfl (x0 m).cells (by kernel_rfl) ?_) | (change wpList _ _ _ _ _ (V0.alloc (.cells M.zero.cells 31)); refine wpList_storeM (b := w.heap.size + 1) (m := M.zero) (m' := x0 m) rfl _ _ rfl (by first | rfl | (rw [← hsz]; rfl)) rfl hz ?_))
  clear hz c0 c24
  generalize (V0.alloc (.cells M.zero.cells 31)).setRow (w.heap.size + 1) (x0 m).cells = V at *
  clear hsz
  have c0 := hS.1.cs.c0
  rw [HK.out] at c0
  have c17 := hS.1.cs.c17
  have d17 := bx.cs.c17
  have f17 := bx.frozen 17
  have HX := Lib.hid bx
  have HS := Lib.hid hS
  clear bx hS
  go_upto_region 31 with fail
  clear c0 c17 d17 f17
  have hS := HS.out.off ⟨w.heap.size + 1, 17, none⟩ (.int .i64 m.nonce) rfl
  have bx := HX.out.set (i := 17) (v := .int .i64 m.nonce) (m' := { x0 m with nonce := m.nonce }) rfl
  clear HX HS
  generalize V.setCell ⟨w.heap.size + 1, 17, none⟩ (.int .i64 m.nonce) = V1 at *
  have HX := Lib.hid bx
  have HS := Lib.hid hS
  clear bx hS
  go_wp2_with (first | (refine wpList_loadM (b := w.heap.size + 1) (m := { x0 m with nonce := m.nonce }) rfl _ rfl rfl HX.out ?_) | (refine wpList_loadM (b := w.heap.size) (m := m) rfl _ rfl rfl HS.out.1 ?_))
  refine (rsame_any ({ x0 m with nonce := m.nonce }) m _ ⟨DRow.nil _ _, (hm.below HS.out.2).s, (Nat.zero_le _), hm.sl⟩ (hm.below HS.out.2)).mono ?_
  rintro e w' ⟨rfl, hb⟩
  replace hb := bcall HS.out.2 hb
  clear HX HS
  go_wp2
  go_ret
  exact ⟨rfl, hb⟩

set_option maxHeartbeats 6400000 in
set_option maxRecDepth 100000 in
theorem rbare_9 (m : M) (w : World) (hk : m.kind = 9) (hm : m.In w) :
    Calls Tryz.prog 23 #[.agg m.cells] w fun e w' => e = .returned (.bool (M.same { k9 m with kind := m.kind } m)) ∧ Below w.heap.size w w' := by
  have HK := Lib.hid hk
  clear hk
  go_enter Tryz.func23, Tryz.ntmps23
  go_upto_region 1 with fail
  have b0 := Bx.new w m
  have hsz := alloc_size w (.cells m.cells 31)
  have c0 := b0.cs.c0
  have c24 := b0.cs.c24
  clear b0
  obtain ⟨hS, bx⟩ := start2 w m (x0 m) M.zero.cells rfl
  have hz := heap_alloc_new (w.alloc (.cells m.cells 31)) (.cells M.zero.cells 31)
  generalize w.alloc (.cells m.cells 31) = V0 at *
  rw [hsz] at hz
  go_upto_region 2 with (first | (refine wpList_built rfl 31 _ rfl (x0 m).cells (by kernel_rfl) ?_) | (change wpList _ _ _ _ _ (V0.alloc (.cells M.zero.cells 31)); refine wpList_storeM (b := w.heap.size + 1) (m := M.zero) (m' := x0 m) rfl _ _ rfl (by first | rfl | (rw [← hsz]; rfl)) rfl hz ?_))
  clear hz c0 c24
  generalize (V0.alloc (.cells M.zero.cells 31)).setRow (w.heap.size + 1) (x0 m).cells = V at *
  clear hsz
  have c0 := hS.1.cs.c0
  rw [HK.out] at c0
  clear V0
  have HX := Lib.hid bx
  have HS := Lib.hid hS
  clear bx hS
  go_upto_region 20 with fail
  clear c0
  refine wp_region_held_drew (S := S1 w m) (by kernel_rfl) HS.out.drew (fun hS => ?_)
  have bx := Bx_drew HX.out
  clear HX HS
  generalize V.drew = W0 at *
  refine H.tk (i := 0) (v := ?v0) ?h0 hS ?_
  case h0 => (intro w hw; go_simp; first | done | (with_reducible rfl))
  try simp only [Act.put, List.setIfInBounds_toArray, List.set_cons_zero, List.set_cons_succ]
  refine H.tk (i := 1) (v := ?v1) ?h1 hS ?_
  case h1 => (intro w hw; have c := (hw.1).cs.c15; go_simp; first | done | (with_reducible rfl))
  try simp only [Act.put, List.setIfInBounds_toArray, List.set_cons_zero, List.set_cons_succ]
  refine H.tk (i := 2) (v := ?v2) ?h2 hS ?_
  case h2 => (intro w hw; go_simp; first | done | (with_reducible rfl))
  try simp only [Act.put, List.setIfInBounds_toArray, List.set_cons_zero, List.set_cons_succ]
  refine H.tk (i := 3) (v := ?v3) ?h3 hS ?_
  case h3 => (intro w hw; have c := (hw.1).cs.c12; go_simp; first | done | (with_reducible rfl))
  try simp only [Act.put, List.setIfInBounds_toArray, List.set_cons_zero, List.set_cons_succ]
  refine H.tk (i := 4) (v := ?v4) ?h4 hS ?_
  case h4 => (intro w hw; go_simp; first | done | (with_reducible rfl))
  try simp only [Act.put, List.setIfInBounds_toArray, List.set_cons_zero, List.set_cons_succ]
  refine H.tk (i := 5) (v := ?v5) ?h5 hS ?_
  case h5 => (intro w hw; have c := (hw.1).cs.c14; go_simp; first | done | (with_reducible rfl))
  try simp only [Act.put, List.setIfInBounds_toArray, List.set_cons_zero, List.set_cons_succ]
  refine H.tk (i := 6) (v := ?v6) ?h6 hS ?_
  case h6 => (intro w hw; go_simp; first | done | (with_reducible rfl))
  try simp only [Act.put, List.setIfInBounds_toArray, List.set_cons_zero, List.set_cons_succ]
  refine wpAnyH_ready (rs := [7]) (by kernel_rfl) (by simp) ?_
  refine AllReadyH.cons rfl (fun K hK => ?_) AllReadyH.nil
  have cx := bx.cell 15 _ rfl
  have fx := bx.frozen 15
  go_simp
  have bx' := bx.set (i := 15) (v := (.int .i64 m.flags)) (m' := { x0 m with flags := m.flags }) rfl
  refine hK.out _ _ (hS.off ⟨w.heap.size + 1, 15, none⟩ (.int .i64 m.flags) rfl) (fun hS' => ?_)
  clear hK K hS bx cx fx
  have hS := hS'
  have bx := bx'
  clear hS' bx'
  generalize World.setCell _ ⟨w.heap.size + 1, 15, none⟩ (.int .i64 m.flags) = W7 at *
  try simp only [Act.put, List.setIfInBounds_toArray, List.set_cons_zero, List.set_cons_succ]
  refine H.tk (i := 8) (v := ?v8) ?h8 hS ?_
  case h8 => (intro w hw; go_simp; first | done | (with_reducible rfl))
  try simp only [Act.put, List.setIfInBounds_toArray, List.set_cons_zero, List.set_cons_succ]
  refine wpAnyH_ready (rs := [9]) (by kernel_rfl) (by simp) ?_
  refine AllReadyH.cons rfl (fun K hK => ?_) AllReadyH.nil
  have cx := bx.cell 12 _ rfl
  have fx := bx.frozen 12
  go_simp
  have bx' := bx.set (i := 12) (v := (.int .i64 m.seq)) (m' := { x0 m with flags := m.flags, seq := m.seq }) rfl
  refine hK.out _ _ (hS.off ⟨w.heap.size + 1, 12, none⟩ (.int .i64 m.seq) rfl) (fun hS' => ?_)
  clear hK K hS bx cx fx
  have hS := hS'
  have bx := bx'
  clear hS' bx'
  generalize World.setCell _ ⟨w.heap.size + 1, 12, none⟩ (.int .i64 m.seq) = W9 at *
  try simp only [Act.put, List.setIfInBounds_toArray, List.set_cons_zero, List.set_cons_succ]
  refine H.tk (i := 10) (v := ?v10) ?h10 hS ?_
  case h10 => (intro w hw; go_simp; first | done | (with_reducible rfl))
  try simp only [Act.put, List.setIfInBounds_toArray, List.set_cons_zero, List.set_cons_succ]
  refine wpAnyH_ready (rs := [11]) (by kernel_rfl) (by simp) ?_
  refine AllReadyH.cons rfl (fun K hK => ?_) AllReadyH.nil
  have cx := bx.cell 14 _ rfl
  have fx := bx.frozen 14
  go_simp
  have bx' := bx.set (i := 14) (v := (.int .i64 m.interval)) (m' := { x0 m with flags := m.flags, seq := m.seq, interval := m.interval }) rfl
  refine hK.out _ _ (hS.off ⟨w.heap.size + 1, 14, none⟩ (.int .i64 m.interval) rfl) (fun hS' => ?_)
  clear hK K hS bx cx fx
  have hS := hS'
  have bx := bx'
  clear hS' bx'
  generalize World.setCell _ ⟨w.heap.size + 1, 14, none⟩ (.int .i64 m.interval) = W11 at *
  try simp only [Act.put, List.setIfInBounds_toArray, List.set_cons_zero, List.set_cons_succ]
  refine wpAnyH_done (by kernel_rfl) ?_ _
  have HX := Lib.hid bx
  have HS := Lib.hid hS
  clear bx hS
  go_upto_region 31 with fail
  go_wp2_with (first | (refine wpList_loadM (b := w.heap.size + 1) (m := { x0 m with flags := m.flags, seq := m.seq, interval := m.interval }) rfl _ rfl rfl HX.out ?_) | (refine wpList_loadM (b := w.heap.size) (m := m) rfl _ rfl rfl HS.out.1 ?_))
  refine (rsame_any ({ x0 m with flags := m.flags, seq := m.seq, interval := m.interval }) m _ ⟨DRow.nil _ _, (hm.below HS.out.2).s, (Nat.zero_le _), hm.sl⟩ (hm.below HS.out.2)).mono ?_
  rintro e w' ⟨rfl, hb⟩
  replace hb := bcall HS.out.2 hb
  clear HX HS
  go_wp2
  go_ret
  exact ⟨rfl, hb⟩

end Go.Proofs.YteecialdkfaejaaGreatDoor.RBare
namespace Go.Proofs.YteecialdkfaejaaGreatDoor.RBare
open Go.ChangeShapes Go.WideShapes Go.ChangeAt Go.RowKit
open Go.Proofs.YteecialdkfaejaaGreatDoor.Ms
open Go.Proofs.YteecialdkfaejaaGreatDoor.Box
open Go.Proofs.YteecialdkfaejaaGreatDoor.Same
open Go.Proofs.YteecialdkfaejaaGreatDoor.SameP
open Go.Proofs.YteecialdkfaejaaGreatDoor.Hs
open Go.Proofs.YteecialdkfaejaaGreatDoor.Or
open Go.Proofs.YteecialdkfaejaaGreatDoor.RSame
open Go.Proofs.YteecialdkfaejaaGreatDoor.Own
set_option linter.unusedVariables false
set_option maxRecDepth 100000

set_option maxHeartbeats 6400000 in
set_option maxRecDepth 100000 in
theorem rbare_10 (m : M) (w : World) (hk : m.kind = 10) (hm : m.In w) :
    Calls Tryz.prog 23 #[.agg m.cells] w fun e w' => e = .returned (.bool (M.same { k10 m with kind := m.kind } m)) ∧ Below w.heap.size w w' := by
  have HK := Lib.hid hk
  clear hk
  go_enter Tryz.func23, Tryz.ntmps23
  go_upto_region 1 with fail
  have b0 := Bx.new w m
  have hsz := alloc_size w (.cells m.cells 31)
  have c0 := b0.cs.c0
  have c24 := b0.cs.c24
  clear b0
  obtain ⟨hS, bx⟩ := start2 w m (x0 m) M.zero.cells rfl
  have hz := heap_alloc_new (w.alloc (.cells m.cells 31)) (.cells M.zero.cells 31)
  generalize w.alloc (.cells m.cells 31) = V0 at *
  rw [hsz] at hz
  go_upto_region 2 with (first | (refine wpList_built rfl 31 _ rfl (x0 m).cells (by kernel_rfl) ?_) | (change wpList _ _ _ _ _ (V0.alloc (.cells M.zero.cells 31)); refine wpList_storeM (b := w.heap.size + 1) (m := M.zero) (m' := x0 m) rfl _ _ rfl (by first | rfl | (rw [← hsz]; rfl)) rfl hz ?_))
  clear hz c0 c24
  generalize (V0.alloc (.cells M.zero.cells 31)).setRow (w.heap.size + 1) (x0 m).cells = V at *
  clear hsz
  have c0 := hS.1.cs.c0
  rw [HK.out] at c0
  clear V0
  have HX := Lib.hid bx
  have HS := Lib.hid hS
  clear bx hS
  go_upto_region 22 with fail
  clear c0
  refine wp_region_held_drew (S := S1 w m) (by kernel_rfl) HS.out.drew (fun hS => ?_)
  have bx := Bx_drew HX.out
  clear HX HS
  generalize V.drew = W0 at *
  refine H.tk (i := 0) (v := ?v0) ?h0 hS ?_
  case h0 => (intro w hw; go_simp; first | done | (with_reducible rfl))
  try simp only [Act.put, List.setIfInBounds_toArray, List.set_cons_zero, List.set_cons_succ]
  refine H.tk (i := 1) (v := ?v1) ?h1 hS ?_
  case h1 => (intro w hw; have c := (hw.1).cs.c5; go_simp; first | done | (with_reducible rfl))
  try simp only [Act.put, List.setIfInBounds_toArray, List.set_cons_zero, List.set_cons_succ]
  refine H.tk (i := 2) (v := ?v2) ?h2 hS ?_
  case h2 => (intro w hw; go_simp; first | done | (with_reducible rfl))
  try simp only [Act.put, List.setIfInBounds_toArray, List.set_cons_zero, List.set_cons_succ]
  refine H.tk (i := 3) (v := ?v3) ?h3 hS ?_
  case h3 => (intro w hw; have c := (hw.1).cs.c18; go_simp; first | done | (with_reducible rfl))
  try simp only [Act.put, List.setIfInBounds_toArray, List.set_cons_zero, List.set_cons_succ]
  refine H.tk (i := 4) (v := ?v4) ?h4 hS ?_
  case h4 => (intro w hw; go_simp; first | done | (with_reducible rfl))
  try simp only [Act.put, List.setIfInBounds_toArray, List.set_cons_zero, List.set_cons_succ]
  refine H.tk (i := 5) (v := ?v5) ?h5 hS ?_
  case h5 => (intro w hw; have c := (hw.1).cs.c14; go_simp; first | done | (with_reducible rfl))
  try simp only [Act.put, List.setIfInBounds_toArray, List.set_cons_zero, List.set_cons_succ]
  refine H.tk (i := 6) (v := ?v6) ?h6 hS ?_
  case h6 => (intro w hw; go_simp; first | done | (with_reducible rfl))
  try simp only [Act.put, List.setIfInBounds_toArray, List.set_cons_zero, List.set_cons_succ]
  refine H.tk (i := 7) (v := ?v7) ?h7 hS ?_
  case h7 => (intro w hw; have c := (hw.1).cs.c19; go_simp; first | done | (with_reducible rfl))
  try simp only [Act.put, List.setIfInBounds_toArray, List.set_cons_zero, List.set_cons_succ]
  refine H.tk (i := 8) (v := ?v8) ?h8 hS ?_
  case h8 => (intro w hw; go_simp; first | done | (with_reducible rfl))
  try simp only [Act.put, List.setIfInBounds_toArray, List.set_cons_zero, List.set_cons_succ]
  refine wpAnyH_ready (rs := [9]) (by kernel_rfl) (by simp) ?_
  refine AllReadyH.cons rfl (fun K hK => ?_) AllReadyH.nil
  have cx := bx.cell 5 _ rfl
  have fx := bx.frozen 5
  go_simp
  have bx' := bx.set (i := 5) (v := (.int .i64 m.ae)) (m' := { x0 m with ae := m.ae }) rfl
  refine hK.out _ _ (hS.off ⟨w.heap.size + 1, 5, none⟩ (.int .i64 m.ae) rfl) (fun hS' => ?_)
  clear hK K hS bx cx fx
  have hS := hS'
  have bx := bx'
  clear hS' bx'
  generalize World.setCell _ ⟨w.heap.size + 1, 5, none⟩ (.int .i64 m.ae) = W9 at *
  try simp only [Act.put, List.setIfInBounds_toArray, List.set_cons_zero, List.set_cons_succ]
  refine H.tk (i := 10) (v := ?v10) ?h10 hS ?_
  case h10 => (intro w hw; go_simp; first | done | (with_reducible rfl))
  try simp only [Act.put, List.setIfInBounds_toArray, List.set_cons_zero, List.set_cons_succ]
  refine wpAnyH_ready (rs := [11]) (by kernel_rfl) (by simp) ?_
  refine AllReadyH.cons rfl (fun K hK => ?_) AllReadyH.nil
  have cx := bx.cell 18 _ rfl
  have fx := bx.frozen 18
  go_simp
  have bx' := bx.set (i := 18) (v := (.int .i64 m.cost)) (m' := { x0 m with ae := m.ae, cost := m.cost }) rfl
  refine hK.out _ _ (hS.off ⟨w.heap.size + 1, 18, none⟩ (.int .i64 m.cost) rfl) (fun hS' => ?_)
  clear hK K hS bx cx fx
  have hS := hS'
  have bx := bx'
  clear hS' bx'
  generalize World.setCell _ ⟨w.heap.size + 1, 18, none⟩ (.int .i64 m.cost) = W11 at *
  try simp only [Act.put, List.setIfInBounds_toArray, List.set_cons_zero, List.set_cons_succ]
  refine H.tk (i := 12) (v := ?v12) ?h12 hS ?_
  case h12 => (intro w hw; go_simp; first | done | (with_reducible rfl))
  try simp only [Act.put, List.setIfInBounds_toArray, List.set_cons_zero, List.set_cons_succ]
  refine wpAnyH_ready (rs := [13]) (by kernel_rfl) (by simp) ?_
  refine AllReadyH.cons rfl (fun K hK => ?_) AllReadyH.nil
  have cx := bx.cell 14 _ rfl
  have fx := bx.frozen 14
  go_simp
  have bx' := bx.set (i := 14) (v := (.int .i64 m.interval)) (m' := { x0 m with ae := m.ae, cost := m.cost, interval := m.interval }) rfl
  refine hK.out _ _ (hS.off ⟨w.heap.size + 1, 14, none⟩ (.int .i64 m.interval) rfl) (fun hS' => ?_)
  clear hK K hS bx cx fx
  have hS := hS'
  have bx := bx'
  clear hS' bx'
  generalize World.setCell _ ⟨w.heap.size + 1, 14, none⟩ (.int .i64 m.interval) = W13 at *
  try simp only [Act.put, List.setIfInBounds_toArray, List.set_cons_zero, List.set_cons_succ]
  refine H.tk (i := 14) (v := ?v14) ?h14 hS ?_
  case h14 => (intro w hw; go_simp; first | done | (with_reducible rfl))
  try simp only [Act.put, List.setIfInBounds_toArray, List.set_cons_zero, List.set_cons_succ]
  refine wpAnyH_ready (rs := [15]) (by kernel_rfl) (by simp) ?_
  refine AllReadyH.cons rfl (fun K hK => ?_) AllReadyH.nil
  have cx := bx.cell 19 _ rfl
  have fx := bx.frozen 19
  go_simp
  have bx' := bx.set (i := 19) (v := (.string m.addr)) (m' := { x0 m with ae := m.ae, cost := m.cost, interval := m.interval, addr := m.addr }) rfl
  refine hK.out _ _ (hS.off ⟨w.heap.size + 1, 19, none⟩ (.string m.addr) rfl) (fun hS' => ?_)
  clear hK K hS bx cx fx
  have hS := hS'
  have bx := bx'
  clear hS' bx'
  generalize World.setCell _ ⟨w.heap.size + 1, 19, none⟩ (.string m.addr) = W15 at *
  try simp only [Act.put, List.setIfInBounds_toArray, List.set_cons_zero, List.set_cons_succ]
  refine wpAnyH_done (by kernel_rfl) ?_ _
  have HX := Lib.hid bx
  have HS := Lib.hid hS
  clear bx hS
  go_upto_region 31 with fail
  go_wp2_with (first | (refine wpList_loadM (b := w.heap.size + 1) (m := { x0 m with ae := m.ae, cost := m.cost, interval := m.interval, addr := m.addr }) rfl _ rfl rfl HX.out ?_) | (refine wpList_loadM (b := w.heap.size) (m := m) rfl _ rfl rfl HS.out.1 ?_))
  refine (rsame_any ({ x0 m with ae := m.ae, cost := m.cost, interval := m.interval, addr := m.addr }) m _ ⟨DRow.nil _ _, (hm.below HS.out.2).s, (Nat.zero_le _), hm.sl⟩ (hm.below HS.out.2)).mono ?_
  rintro e w' ⟨rfl, hb⟩
  replace hb := bcall HS.out.2 hb
  clear HX HS
  go_wp2
  go_ret
  exact ⟨rfl, hb⟩

set_option maxHeartbeats 6400000 in
set_option maxRecDepth 100000 in
theorem rbare_11 (m : M) (w : World) (hk : m.kind = 11) (hm : m.In w) :
    Calls Tryz.prog 23 #[.agg m.cells] w fun e w' => e = .returned (.bool (M.same { k11 m with kind := m.kind } m)) ∧ Below w.heap.size w w' := by
  have HK := Lib.hid hk
  clear hk
  go_enter Tryz.func23, Tryz.ntmps23
  go_upto_region 1 with fail
  have b0 := Bx.new w m
  have hsz := alloc_size w (.cells m.cells 31)
  have c0 := b0.cs.c0
  have c24 := b0.cs.c24
  clear b0
  obtain ⟨hS, bx⟩ := start2 w m (x0 m) M.zero.cells rfl
  have hz := heap_alloc_new (w.alloc (.cells m.cells 31)) (.cells M.zero.cells 31)
  generalize w.alloc (.cells m.cells 31) = V0 at *
  rw [hsz] at hz
  go_upto_region 2 with (first | (refine wpList_built rfl 31 _ rfl (x0 m).cells (by kernel_rfl) ?_) | (change wpList _ _ _ _ _ (V0.alloc (.cells M.zero.cells 31)); refine wpList_storeM (b := w.heap.size + 1) (m := M.zero) (m' := x0 m) rfl _ _ rfl (by first | rfl | (rw [← hsz]; rfl)) rfl hz ?_))
  clear hz c0 c24
  generalize (V0.alloc (.cells M.zero.cells 31)).setRow (w.heap.size + 1) (x0 m).cells = V at *
  clear hsz
  have c0 := hS.1.cs.c0
  rw [HK.out] at c0
  clear V0
  have HX := Lib.hid bx
  have HS := Lib.hid hS
  clear bx hS
  go_upto_region 24 with fail
  clear c0
  refine wp_region_held_drew (S := S1 w m) (by kernel_rfl) HS.out.drew (fun hS => ?_)
  have bx := Bx_drew HX.out
  clear HX HS
  generalize V.drew = W0 at *
  refine H.tk (i := 0) (v := ?v0) ?h0 hS ?_
  case h0 => (intro w hw; go_simp; first | done | (with_reducible rfl))
  try simp only [Act.put, List.setIfInBounds_toArray, List.set_cons_zero, List.set_cons_succ]
  refine H.tk (i := 1) (v := ?v1) ?h1 hS ?_
  case h1 => (intro w hw; have c := (hw.1).cs.c5; go_simp; first | done | (with_reducible rfl))
  try simp only [Act.put, List.setIfInBounds_toArray, List.set_cons_zero, List.set_cons_succ]
  refine H.tk (i := 2) (v := ?v2) ?h2 hS ?_
  case h2 => (intro w hw; go_simp; first | done | (with_reducible rfl))
  try simp only [Act.put, List.setIfInBounds_toArray, List.set_cons_zero, List.set_cons_succ]
  refine H.tk (i := 3) (v := ?v3) ?h3 hS ?_
  case h3 => (intro w hw; have c := (hw.1).cs.c6; go_simp; first | done | (with_reducible rfl))
  try simp only [Act.put, List.setIfInBounds_toArray, List.set_cons_zero, List.set_cons_succ]
  refine H.tk (i := 4) (v := ?v4) ?h4 hS ?_
  case h4 => (intro w hw; go_simp; first | done | (with_reducible rfl))
  try simp only [Act.put, List.setIfInBounds_toArray, List.set_cons_zero, List.set_cons_succ]
  refine H.tk (i := 5) (v := ?v5) ?h5 hS ?_
  case h5 => (intro w hw; have c := (hw.1).cs.c7; go_simp; first | done | (with_reducible rfl))
  try simp only [Act.put, List.setIfInBounds_toArray, List.set_cons_zero, List.set_cons_succ]
  refine H.tk (i := 6) (v := ?v6) ?h6 hS ?_
  case h6 => (intro w hw; go_simp; first | done | (with_reducible rfl))
  try simp only [Act.put, List.setIfInBounds_toArray, List.set_cons_zero, List.set_cons_succ]
  refine H.tk (i := 7) (v := ?v7) ?h7 hS ?_
  case h7 => (intro w hw; have c := (hw.1).cs.c14; go_simp; first | done | (with_reducible rfl))
  try simp only [Act.put, List.setIfInBounds_toArray, List.set_cons_zero, List.set_cons_succ]
  refine H.tk (i := 8) (v := ?v8) ?h8 hS ?_
  case h8 => (intro w hw; go_simp; first | done | (with_reducible rfl))
  try simp only [Act.put, List.setIfInBounds_toArray, List.set_cons_zero, List.set_cons_succ]
  refine H.tk (i := 9) (v := ?v9) ?h9 hS ?_
  case h9 => (intro w hw; have c := (hw.1).cs.c12; go_simp; first | done | (with_reducible rfl))
  try simp only [Act.put, List.setIfInBounds_toArray, List.set_cons_zero, List.set_cons_succ]
  refine H.tk (i := 10) (v := ?v10) ?h10 hS ?_
  case h10 => (intro w hw; go_simp; first | done | (with_reducible rfl))
  try simp only [Act.put, List.setIfInBounds_toArray, List.set_cons_zero, List.set_cons_succ]
  refine H.tk (i := 11) (v := ?v11) ?h11 hS ?_
  case h11 => (intro w hw; have c := (hw.1).cs.c10; go_simp; first | done | (with_reducible rfl))
  try simp only [Act.put, List.setIfInBounds_toArray, List.set_cons_zero, List.set_cons_succ]
  refine H.tk (i := 12) (v := ?v12) ?h12 hS ?_
  case h12 => (intro w hw; go_simp; first | done | (with_reducible rfl))
  try simp only [Act.put, List.setIfInBounds_toArray, List.set_cons_zero, List.set_cons_succ]
  refine H.tk (i := 13) (v := ?v13) ?h13 hS ?_
  case h13 => (intro w hw; have c := (hw.1).cs.c11; go_simp; first | done | (with_reducible rfl))
  try simp only [Act.put, List.setIfInBounds_toArray, List.set_cons_zero, List.set_cons_succ]
  refine H.tk (i := 14) (v := ?v14) ?h14 hS ?_
  case h14 => (intro w hw; go_simp; first | done | (with_reducible rfl))
  try simp only [Act.put, List.setIfInBounds_toArray, List.set_cons_zero, List.set_cons_succ]
  refine H.tk (i := 15) (v := ?v15) ?h15 hS ?_
  case h15 => (intro w hw; have c := (hw.1).cs.c9; go_simp; first | done | (with_reducible rfl))
  try simp only [Act.put, List.setIfInBounds_toArray, List.set_cons_zero, List.set_cons_succ]
  refine H.tk (i := 16) (v := ?v16) ?h16 hS ?_
  case h16 => (intro w hw; go_simp; first | done | (with_reducible rfl))
  try simp only [Act.put, List.setIfInBounds_toArray, List.set_cons_zero, List.set_cons_succ]
  refine wpAnyH_ready (rs := [17]) (by kernel_rfl) (by simp) ?_
  refine AllReadyH.cons rfl (fun K hK => ?_) AllReadyH.nil
  have cx := bx.cell 5 _ rfl
  have fx := bx.frozen 5
  go_simp
  have bx' := bx.set (i := 5) (v := (.int .i64 m.ae)) (m' := { x0 m with ae := m.ae }) rfl
  refine hK.out _ _ (hS.off ⟨w.heap.size + 1, 5, none⟩ (.int .i64 m.ae) rfl) (fun hS' => ?_)
  clear hK K hS bx cx fx
  have hS := hS'
  have bx := bx'
  clear hS' bx'
  generalize World.setCell _ ⟨w.heap.size + 1, 5, none⟩ (.int .i64 m.ae) = W17 at *
  try simp only [Act.put, List.setIfInBounds_toArray, List.set_cons_zero, List.set_cons_succ]
  refine H.tk (i := 18) (v := ?v18) ?h18 hS ?_
  case h18 => (intro w hw; go_simp; first | done | (with_reducible rfl))
  try simp only [Act.put, List.setIfInBounds_toArray, List.set_cons_zero, List.set_cons_succ]
  refine wpAnyH_ready (rs := [19]) (by kernel_rfl) (by simp) ?_
  refine AllReadyH.cons rfl (fun K hK => ?_) AllReadyH.nil
  have cx := bx.cell 6 _ rfl
  have fx := bx.frozen 6
  go_simp
  have bx' := bx.set (i := 6) (v := (.string m.pfx)) (m' := { x0 m with ae := m.ae, pfx := m.pfx }) rfl
  refine hK.out _ _ (hS.off ⟨w.heap.size + 1, 6, none⟩ (.string m.pfx) rfl) (fun hS' => ?_)
  clear hK K hS bx cx fx
  have hS := hS'
  have bx := bx'
  clear hS' bx'
  generalize World.setCell _ ⟨w.heap.size + 1, 6, none⟩ (.string m.pfx) = W19 at *
  try simp only [Act.put, List.setIfInBounds_toArray, List.set_cons_zero, List.set_cons_succ]
  refine H.tk (i := 20) (v := ?v20) ?h20 hS ?_
  case h20 => (intro w hw; go_simp; first | done | (with_reducible rfl))
  try simp only [Act.put, List.setIfInBounds_toArray, List.set_cons_zero, List.set_cons_succ]
  refine wpAnyH_ready (rs := [21]) (by kernel_rfl) (by simp) ?_
  refine AllReadyH.cons rfl (fun K hK => ?_) AllReadyH.nil
  have cx := bx.cell 7 _ rfl
  have fx := bx.frozen 7
  go_simp
  have bx' := bx.set (i := 7) (v := (.int .i64 m.plen)) (m' := { x0 m with ae := m.ae, pfx := m.pfx, plen := m.plen }) rfl
  refine hK.out _ _ (hS.off ⟨w.heap.size + 1, 7, none⟩ (.int .i64 m.plen) rfl) (fun hS' => ?_)
  clear hK K hS bx cx fx
  have hS := hS'
  have bx := bx'
  clear hS' bx'
  generalize World.setCell _ ⟨w.heap.size + 1, 7, none⟩ (.int .i64 m.plen) = W21 at *
  try simp only [Act.put, List.setIfInBounds_toArray, List.set_cons_zero, List.set_cons_succ]
  refine H.tk (i := 22) (v := ?v22) ?h22 hS ?_
  case h22 => (intro w hw; go_simp; first | done | (with_reducible rfl))
  try simp only [Act.put, List.setIfInBounds_toArray, List.set_cons_zero, List.set_cons_succ]
  refine wpAnyH_ready (rs := [23]) (by kernel_rfl) (by simp) ?_
  refine AllReadyH.cons rfl (fun K hK => ?_) AllReadyH.nil
  have cx := bx.cell 14 _ rfl
  have fx := bx.frozen 14
  go_simp
  have bx' := bx.set (i := 14) (v := (.int .i64 m.interval)) (m' := { x0 m with ae := m.ae, pfx := m.pfx, plen := m.plen, interval := m.interval }) rfl
  refine hK.out _ _ (hS.off ⟨w.heap.size + 1, 14, none⟩ (.int .i64 m.interval) rfl) (fun hS' => ?_)
  clear hK K hS bx cx fx
  have hS := hS'
  have bx := bx'
  clear hS' bx'
  generalize World.setCell _ ⟨w.heap.size + 1, 14, none⟩ (.int .i64 m.interval) = W23 at *
  try simp only [Act.put, List.setIfInBounds_toArray, List.set_cons_zero, List.set_cons_succ]
  refine H.tk (i := 24) (v := ?v24) ?h24 hS ?_
  case h24 => (intro w hw; go_simp; first | done | (with_reducible rfl))
  try simp only [Act.put, List.setIfInBounds_toArray, List.set_cons_zero, List.set_cons_succ]
  refine wpAnyH_ready (rs := [25]) (by kernel_rfl) (by simp) ?_
  refine AllReadyH.cons rfl (fun K hK => ?_) AllReadyH.nil
  have cx := bx.cell 12 _ rfl
  have fx := bx.frozen 12
  go_simp
  have bx' := bx.set (i := 12) (v := (.int .i64 m.seq)) (m' := { x0 m with ae := m.ae, pfx := m.pfx, plen := m.plen, interval := m.interval, seq := m.seq }) rfl
  refine hK.out _ _ (hS.off ⟨w.heap.size + 1, 12, none⟩ (.int .i64 m.seq) rfl) (fun hS' => ?_)
  clear hK K hS bx cx fx
  have hS := hS'
  have bx := bx'
  clear hS' bx'
  generalize World.setCell _ ⟨w.heap.size + 1, 12, none⟩ (.int .i64 m.seq) = W25 at *
  try simp only [Act.put, List.setIfInBounds_toArray, List.set_cons_zero, List.set_cons_succ]
  refine H.tk (i := 26) (v := ?v26) ?h26 hS ?_
  case h26 => (intro w hw; go_simp; first | done | (with_reducible rfl))
  try simp only [Act.put, List.setIfInBounds_toArray, List.set_cons_zero, List.set_cons_succ]
  refine wpAnyH_ready (rs := [27]) (by kernel_rfl) (by simp) ?_
  refine AllReadyH.cons rfl (fun K hK => ?_) AllReadyH.nil
  have cx := bx.cell 10 _ rfl
  have fx := bx.frozen 10
  go_simp
  have bx' := bx.set (i := 10) (v := (.int .i64 m.metric)) (m' := { x0 m with ae := m.ae, pfx := m.pfx, plen := m.plen, interval := m.interval, seq := m.seq, metric := m.metric }) rfl
  refine hK.out _ _ (hS.off ⟨w.heap.size + 1, 10, none⟩ (.int .i64 m.metric) rfl) (fun hS' => ?_)
  clear hK K hS bx cx fx
  have hS := hS'
  have bx := bx'
  clear hS' bx'
  generalize World.setCell _ ⟨w.heap.size + 1, 10, none⟩ (.int .i64 m.metric) = W27 at *
  try simp only [Act.put, List.setIfInBounds_toArray, List.set_cons_zero, List.set_cons_succ]
  refine H.tk (i := 28) (v := ?v28) ?h28 hS ?_
  case h28 => (intro w hw; go_simp; first | done | (with_reducible rfl))
  try simp only [Act.put, List.setIfInBounds_toArray, List.set_cons_zero, List.set_cons_succ]
  refine wpAnyH_ready (rs := [29]) (by kernel_rfl) (by simp) ?_
  refine AllReadyH.cons rfl (fun K hK => ?_) AllReadyH.nil
  have cx := bx.cell 11 _ rfl
  have fx := bx.frozen 11
  go_simp
  have bx' := bx.set (i := 11) (v := (.string m.id)) (m' := { x0 m with ae := m.ae, pfx := m.pfx, plen := m.plen, interval := m.interval, seq := m.seq, metric := m.metric, id := m.id }) rfl
  refine hK.out _ _ (hS.off ⟨w.heap.size + 1, 11, none⟩ (.string m.id) rfl) (fun hS' => ?_)
  clear hK K hS bx cx fx
  have hS := hS'
  have bx := bx'
  clear hS' bx'
  generalize World.setCell _ ⟨w.heap.size + 1, 11, none⟩ (.string m.id) = W29 at *
  try simp only [Act.put, List.setIfInBounds_toArray, List.set_cons_zero, List.set_cons_succ]
  refine H.tk (i := 30) (v := ?v30) ?h30 hS ?_
  case h30 => (intro w hw; go_simp; first | done | (with_reducible rfl))
  try simp only [Act.put, List.setIfInBounds_toArray, List.set_cons_zero, List.set_cons_succ]
  refine wpAnyH_ready (rs := [31]) (by kernel_rfl) (by simp) ?_
  refine AllReadyH.cons rfl (fun K hK => ?_) AllReadyH.nil
  have cx := bx.cell 9 _ rfl
  have fx := bx.frozen 9
  go_simp
  have bx' := bx.set (i := 9) (v := (.string m.next)) (m' := { x0 m with ae := m.ae, pfx := m.pfx, plen := m.plen, interval := m.interval, seq := m.seq, metric := m.metric, id := m.id, next := m.next }) rfl
  refine hK.out _ _ (hS.off ⟨w.heap.size + 1, 9, none⟩ (.string m.next) rfl) (fun hS' => ?_)
  clear hK K hS bx cx fx
  have hS := hS'
  have bx := bx'
  clear hS' bx'
  generalize World.setCell _ ⟨w.heap.size + 1, 9, none⟩ (.string m.next) = W31 at *
  try simp only [Act.put, List.setIfInBounds_toArray, List.set_cons_zero, List.set_cons_succ]
  refine wpAnyH_done (by kernel_rfl) ?_ _
  have HX := Lib.hid bx
  have HS := Lib.hid hS
  clear bx hS
  go_upto_region 31 with fail
  go_wp2_with (first | (refine wpList_loadM (b := w.heap.size + 1) (m := { x0 m with ae := m.ae, pfx := m.pfx, plen := m.plen, interval := m.interval, seq := m.seq, metric := m.metric, id := m.id, next := m.next }) rfl _ rfl rfl HX.out ?_) | (refine wpList_loadM (b := w.heap.size) (m := m) rfl _ rfl rfl HS.out.1 ?_))
  refine (rsame_any ({ x0 m with ae := m.ae, pfx := m.pfx, plen := m.plen, interval := m.interval, seq := m.seq, metric := m.metric, id := m.id, next := m.next }) m _ ⟨DRow.nil _ _, (hm.below HS.out.2).s, (Nat.zero_le _), hm.sl⟩ (hm.below HS.out.2)).mono ?_
  rintro e w' ⟨rfl, hb⟩
  replace hb := bcall HS.out.2 hb
  clear HX HS
  go_wp2
  go_ret
  exact ⟨rfl, hb⟩

end Go.Proofs.YteecialdkfaejaaGreatDoor.RBare
namespace Go.Proofs.YteecialdkfaejaaGreatDoor.RBare
open Go.ChangeShapes Go.WideShapes Go.ChangeAt Go.RowKit
open Go.Proofs.YteecialdkfaejaaGreatDoor.Ms
open Go.Proofs.YteecialdkfaejaaGreatDoor.Box
open Go.Proofs.YteecialdkfaejaaGreatDoor.Same
open Go.Proofs.YteecialdkfaejaaGreatDoor.SameP
open Go.Proofs.YteecialdkfaejaaGreatDoor.Hs
open Go.Proofs.YteecialdkfaejaaGreatDoor.Or
open Go.Proofs.YteecialdkfaejaaGreatDoor.RSame
open Go.Proofs.YteecialdkfaejaaGreatDoor.Own
set_option linter.unusedVariables false
set_option maxRecDepth 100000

set_option maxHeartbeats 6400000 in
set_option maxRecDepth 100000 in
theorem rbare_12 (m : M) (w : World) (hk : m.kind = 12) (hm : m.In w) :
    Calls Tryz.prog 23 #[.agg m.cells] w fun e w' => e = .returned (.bool (M.same { k12 m with kind := m.kind } m)) ∧ Below w.heap.size w w' := by
  have HK := Lib.hid hk
  clear hk
  go_enter Tryz.func23, Tryz.ntmps23
  go_upto_region 1 with fail
  have b0 := Bx.new w m
  have hsz := alloc_size w (.cells m.cells 31)
  have c0 := b0.cs.c0
  have c24 := b0.cs.c24
  clear b0
  obtain ⟨hS, bx⟩ := start2 w m (x0 m) M.zero.cells rfl
  have hz := heap_alloc_new (w.alloc (.cells m.cells 31)) (.cells M.zero.cells 31)
  generalize w.alloc (.cells m.cells 31) = V0 at *
  rw [hsz] at hz
  go_upto_region 2 with (first | (refine wpList_built rfl 31 _ rfl (x0 m).cells (by kernel_rfl) ?_) | (change wpList _ _ _ _ _ (V0.alloc (.cells M.zero.cells 31)); refine wpList_storeM (b := w.heap.size + 1) (m := M.zero) (m' := x0 m) rfl _ _ rfl (by first | rfl | (rw [← hsz]; rfl)) rfl hz ?_))
  clear hz c0 c24
  generalize (V0.alloc (.cells M.zero.cells 31)).setRow (w.heap.size + 1) (x0 m).cells = V at *
  clear hsz
  have c0 := hS.1.cs.c0
  rw [HK.out] at c0
  clear V0
  have HX := Lib.hid bx
  have HS := Lib.hid hS
  clear bx hS
  go_upto_region 26 with fail
  clear c0
  refine wp_region_held_drew (S := S1 w m) (by kernel_rfl) HS.out.drew (fun hS => ?_)
  have bx := Bx_drew HX.out
  clear HX HS
  generalize V.drew = W0 at *
  refine H.tk (i := 0) (v := ?v0) ?h0 hS ?_
  case h0 => (intro w hw; go_simp; first | done | (with_reducible rfl))
  try simp only [Act.put, List.setIfInBounds_toArray, List.set_cons_zero, List.set_cons_succ]
  refine H.tk (i := 1) (v := ?v1) ?h1 hS ?_
  case h1 => (intro w hw; have c := (hw.1).cs.c5; go_simp; first | done | (with_reducible rfl))
  try simp only [Act.put, List.setIfInBounds_toArray, List.set_cons_zero, List.set_cons_succ]
  refine H.tk (i := 2) (v := ?v2) ?h2 hS ?_
  case h2 => (intro w hw; go_simp; first | done | (with_reducible rfl))
  try simp only [Act.put, List.setIfInBounds_toArray, List.set_cons_zero, List.set_cons_succ]
  refine H.tk (i := 3) (v := ?v3) ?h3 hS ?_
  case h3 => (intro w hw; have c := (hw.1).cs.c6; go_simp; first | done | (with_reducible rfl))
  try simp only [Act.put, List.setIfInBounds_toArray, List.set_cons_zero, List.set_cons_succ]
  refine H.tk (i := 4) (v := ?v4) ?h4 hS ?_
  case h4 => (intro w hw; go_simp; first | done | (with_reducible rfl))
  try simp only [Act.put, List.setIfInBounds_toArray, List.set_cons_zero, List.set_cons_succ]
  refine H.tk (i := 5) (v := ?v5) ?h5 hS ?_
  case h5 => (intro w hw; have c := (hw.1).cs.c7; go_simp; first | done | (with_reducible rfl))
  try simp only [Act.put, List.setIfInBounds_toArray, List.set_cons_zero, List.set_cons_succ]
  refine H.tk (i := 6) (v := ?v6) ?h6 hS ?_
  case h6 => (intro w hw; go_simp; first | done | (with_reducible rfl))
  try simp only [Act.put, List.setIfInBounds_toArray, List.set_cons_zero, List.set_cons_succ]
  refine wpAnyH_ready (rs := [7]) (by kernel_rfl) (by simp) ?_
  refine AllReadyH.cons rfl (fun K hK => ?_) AllReadyH.nil
  have cx := bx.cell 5 _ rfl
  have fx := bx.frozen 5
  go_simp
  have bx' := bx.set (i := 5) (v := (.int .i64 m.ae)) (m' := { x0 m with ae := m.ae }) rfl
  refine hK.out _ _ (hS.off ⟨w.heap.size + 1, 5, none⟩ (.int .i64 m.ae) rfl) (fun hS' => ?_)
  clear hK K hS bx cx fx
  have hS := hS'
  have bx := bx'
  clear hS' bx'
  generalize World.setCell _ ⟨w.heap.size + 1, 5, none⟩ (.int .i64 m.ae) = W7 at *
  try simp only [Act.put, List.setIfInBounds_toArray, List.set_cons_zero, List.set_cons_succ]
  refine H.tk (i := 8) (v := ?v8) ?h8 hS ?_
  case h8 => (intro w hw; go_simp; first | done | (with_reducible rfl))
  try simp only [Act.put, List.setIfInBounds_toArray, List.set_cons_zero, List.set_cons_succ]
  refine wpAnyH_ready (rs := [9]) (by kernel_rfl) (by simp) ?_
  refine AllReadyH.cons rfl (fun K hK => ?_) AllReadyH.nil
  have cx := bx.cell 6 _ rfl
  have fx := bx.frozen 6
  go_simp
  have bx' := bx.set (i := 6) (v := (.string m.pfx)) (m' := { x0 m with ae := m.ae, pfx := m.pfx }) rfl
  refine hK.out _ _ (hS.off ⟨w.heap.size + 1, 6, none⟩ (.string m.pfx) rfl) (fun hS' => ?_)
  clear hK K hS bx cx fx
  have hS := hS'
  have bx := bx'
  clear hS' bx'
  generalize World.setCell _ ⟨w.heap.size + 1, 6, none⟩ (.string m.pfx) = W9 at *
  try simp only [Act.put, List.setIfInBounds_toArray, List.set_cons_zero, List.set_cons_succ]
  refine H.tk (i := 10) (v := ?v10) ?h10 hS ?_
  case h10 => (intro w hw; go_simp; first | done | (with_reducible rfl))
  try simp only [Act.put, List.setIfInBounds_toArray, List.set_cons_zero, List.set_cons_succ]
  refine wpAnyH_ready (rs := [11]) (by kernel_rfl) (by simp) ?_
  refine AllReadyH.cons rfl (fun K hK => ?_) AllReadyH.nil
  have cx := bx.cell 7 _ rfl
  have fx := bx.frozen 7
  go_simp
  have bx' := bx.set (i := 7) (v := (.int .i64 m.plen)) (m' := { x0 m with ae := m.ae, pfx := m.pfx, plen := m.plen }) rfl
  refine hK.out _ _ (hS.off ⟨w.heap.size + 1, 7, none⟩ (.int .i64 m.plen) rfl) (fun hS' => ?_)
  clear hK K hS bx cx fx
  have hS := hS'
  have bx := bx'
  clear hS' bx'
  generalize World.setCell _ ⟨w.heap.size + 1, 7, none⟩ (.int .i64 m.plen) = W11 at *
  try simp only [Act.put, List.setIfInBounds_toArray, List.set_cons_zero, List.set_cons_succ]
  refine wpAnyH_done (by kernel_rfl) ?_ _
  have HX := Lib.hid bx
  have HS := Lib.hid hS
  clear bx hS
  go_upto_region 31 with fail
  go_wp2_with (first | (refine wpList_loadM (b := w.heap.size + 1) (m := { x0 m with ae := m.ae, pfx := m.pfx, plen := m.plen }) rfl _ rfl rfl HX.out ?_) | (refine wpList_loadM (b := w.heap.size) (m := m) rfl _ rfl rfl HS.out.1 ?_))
  refine (rsame_any ({ x0 m with ae := m.ae, pfx := m.pfx, plen := m.plen }) m _ ⟨DRow.nil _ _, (hm.below HS.out.2).s, (Nat.zero_le _), hm.sl⟩ (hm.below HS.out.2)).mono ?_
  rintro e w' ⟨rfl, hb⟩
  replace hb := bcall HS.out.2 hb
  clear HX HS
  go_wp2
  go_ret
  exact ⟨rfl, hb⟩

set_option maxHeartbeats 6400000 in
set_option maxRecDepth 100000 in
theorem rbare_13 (m : M) (w : World) (hk : m.kind = 13) (hm : m.In w) :
    Calls Tryz.prog 23 #[.agg m.cells] w fun e w' => e = .returned (.bool (M.same { k13 m with kind := m.kind } m)) ∧ Below w.heap.size w w' := by
  have HK := Lib.hid hk
  clear hk
  go_enter Tryz.func23, Tryz.ntmps23
  go_upto_region 1 with fail
  have b0 := Bx.new w m
  have hsz := alloc_size w (.cells m.cells 31)
  have c0 := b0.cs.c0
  have c24 := b0.cs.c24
  clear b0
  obtain ⟨hS, bx⟩ := start2 w m (x0 m) M.zero.cells rfl
  have hz := heap_alloc_new (w.alloc (.cells m.cells 31)) (.cells M.zero.cells 31)
  generalize w.alloc (.cells m.cells 31) = V0 at *
  rw [hsz] at hz
  go_upto_region 2 with (first | (refine wpList_built rfl 31 _ rfl (x0 m).cells (by kernel_rfl) ?_) | (change wpList _ _ _ _ _ (V0.alloc (.cells M.zero.cells 31)); refine wpList_storeM (b := w.heap.size + 1) (m := M.zero) (m' := x0 m) rfl _ _ rfl (by first | rfl | (rw [← hsz]; rfl)) rfl hz ?_))
  clear hz c0 c24
  generalize (V0.alloc (.cells M.zero.cells 31)).setRow (w.heap.size + 1) (x0 m).cells = V at *
  clear hsz
  have c0 := hS.1.cs.c0
  rw [HK.out] at c0
  clear V0
  have HX := Lib.hid bx
  have HS := Lib.hid hS
  clear bx hS
  go_upto_region 28 with fail
  clear c0
  refine wp_region_held_drew (S := S1 w m) (by kernel_rfl) HS.out.drew (fun hS => ?_)
  have bx := Bx_drew HX.out
  clear HX HS
  generalize V.drew = W0 at *
  refine H.tk (i := 0) (v := ?v0) ?h0 hS ?_
  case h0 => (intro w hw; go_simp; first | done | (with_reducible rfl))
  try simp only [Act.put, List.setIfInBounds_toArray, List.set_cons_zero, List.set_cons_succ]
  refine H.tk (i := 1) (v := ?v1) ?h1 hS ?_
  case h1 => (intro w hw; have c := (hw.1).cs.c5; go_simp; first | done | (with_reducible rfl))
  try simp only [Act.put, List.setIfInBounds_toArray, List.set_cons_zero, List.set_cons_succ]
  refine H.tk (i := 2) (v := ?v2) ?h2 hS ?_
  case h2 => (intro w hw; go_simp; first | done | (with_reducible rfl))
  try simp only [Act.put, List.setIfInBounds_toArray, List.set_cons_zero, List.set_cons_succ]
  refine H.tk (i := 3) (v := ?v3) ?h3 hS ?_
  case h3 => (intro w hw; have c := (hw.1).cs.c6; go_simp; first | done | (with_reducible rfl))
  try simp only [Act.put, List.setIfInBounds_toArray, List.set_cons_zero, List.set_cons_succ]
  refine H.tk (i := 4) (v := ?v4) ?h4 hS ?_
  case h4 => (intro w hw; go_simp; first | done | (with_reducible rfl))
  try simp only [Act.put, List.setIfInBounds_toArray, List.set_cons_zero, List.set_cons_succ]
  refine H.tk (i := 5) (v := ?v5) ?h5 hS ?_
  case h5 => (intro w hw; have c := (hw.1).cs.c7; go_simp; first | done | (with_reducible rfl))
  try simp only [Act.put, List.setIfInBounds_toArray, List.set_cons_zero, List.set_cons_succ]
  refine H.tk (i := 6) (v := ?v6) ?h6 hS ?_
  case h6 => (intro w hw; go_simp; first | done | (with_reducible rfl))
  try simp only [Act.put, List.setIfInBounds_toArray, List.set_cons_zero, List.set_cons_succ]
  refine H.tk (i := 7) (v := ?v7) ?h7 hS ?_
  case h7 => (intro w hw; have c := (hw.1).cs.c12; go_simp; first | done | (with_reducible rfl))
  try simp only [Act.put, List.setIfInBounds_toArray, List.set_cons_zero, List.set_cons_succ]
  refine H.tk (i := 8) (v := ?v8) ?h8 hS ?_
  case h8 => (intro w hw; go_simp; first | done | (with_reducible rfl))
  try simp only [Act.put, List.setIfInBounds_toArray, List.set_cons_zero, List.set_cons_succ]
  refine H.tk (i := 9) (v := ?v9) ?h9 hS ?_
  case h9 => (intro w hw; have c := (hw.1).cs.c16; go_simp; first | done | (with_reducible rfl))
  try simp only [Act.put, List.setIfInBounds_toArray, List.set_cons_zero, List.set_cons_succ]
  refine H.tk (i := 10) (v := ?v10) ?h10 hS ?_
  case h10 => (intro w hw; go_simp; first | done | (with_reducible rfl))
  try simp only [Act.put, List.setIfInBounds_toArray, List.set_cons_zero, List.set_cons_succ]
  refine H.tk (i := 11) (v := ?v11) ?h11 hS ?_
  case h11 => (intro w hw; have c := (hw.1).cs.c11; go_simp; first | done | (with_reducible rfl))
  try simp only [Act.put, List.setIfInBounds_toArray, List.set_cons_zero, List.set_cons_succ]
  refine H.tk (i := 12) (v := ?v12) ?h12 hS ?_
  case h12 => (intro w hw; go_simp; first | done | (with_reducible rfl))
  try simp only [Act.put, List.setIfInBounds_toArray, List.set_cons_zero, List.set_cons_succ]
  refine wpAnyH_ready (rs := [13]) (by kernel_rfl) (by simp) ?_
  refine AllReadyH.cons rfl (fun K hK => ?_) AllReadyH.nil
  have cx := bx.cell 5 _ rfl
  have fx := bx.frozen 5
  go_simp
  have bx' := bx.set (i := 5) (v := (.int .i64 m.ae)) (m' := { x0 m with ae := m.ae }) rfl
  refine hK.out _ _ (hS.off ⟨w.heap.size + 1, 5, none⟩ (.int .i64 m.ae) rfl) (fun hS' => ?_)
  clear hK K hS bx cx fx
  have hS := hS'
  have bx := bx'
  clear hS' bx'
  generalize World.setCell _ ⟨w.heap.size + 1, 5, none⟩ (.int .i64 m.ae) = W13 at *
  try simp only [Act.put, List.setIfInBounds_toArray, List.set_cons_zero, List.set_cons_succ]
  refine H.tk (i := 14) (v := ?v14) ?h14 hS ?_
  case h14 => (intro w hw; go_simp; first | done | (with_reducible rfl))
  try simp only [Act.put, List.setIfInBounds_toArray, List.set_cons_zero, List.set_cons_succ]
  refine wpAnyH_ready (rs := [15]) (by kernel_rfl) (by simp) ?_
  refine AllReadyH.cons rfl (fun K hK => ?_) AllReadyH.nil
  have cx := bx.cell 6 _ rfl
  have fx := bx.frozen 6
  go_simp
  have bx' := bx.set (i := 6) (v := (.string m.pfx)) (m' := { x0 m with ae := m.ae, pfx := m.pfx }) rfl
  refine hK.out _ _ (hS.off ⟨w.heap.size + 1, 6, none⟩ (.string m.pfx) rfl) (fun hS' => ?_)
  clear hK K hS bx cx fx
  have hS := hS'
  have bx := bx'
  clear hS' bx'
  generalize World.setCell _ ⟨w.heap.size + 1, 6, none⟩ (.string m.pfx) = W15 at *
  try simp only [Act.put, List.setIfInBounds_toArray, List.set_cons_zero, List.set_cons_succ]
  refine H.tk (i := 16) (v := ?v16) ?h16 hS ?_
  case h16 => (intro w hw; go_simp; first | done | (with_reducible rfl))
  try simp only [Act.put, List.setIfInBounds_toArray, List.set_cons_zero, List.set_cons_succ]
  refine wpAnyH_ready (rs := [17]) (by kernel_rfl) (by simp) ?_
  refine AllReadyH.cons rfl (fun K hK => ?_) AllReadyH.nil
  have cx := bx.cell 7 _ rfl
  have fx := bx.frozen 7
  go_simp
  have bx' := bx.set (i := 7) (v := (.int .i64 m.plen)) (m' := { x0 m with ae := m.ae, pfx := m.pfx, plen := m.plen }) rfl
  refine hK.out _ _ (hS.off ⟨w.heap.size + 1, 7, none⟩ (.int .i64 m.plen) rfl) (fun hS' => ?_)
  clear hK K hS bx cx fx
  have hS := hS'
  have bx := bx'
  clear hS' bx'
  generalize World.setCell _ ⟨w.heap.size + 1, 7, none⟩ (.int .i64 m.plen) = W17 at *
  try simp only [Act.put, List.setIfInBounds_toArray, List.set_cons_zero, List.set_cons_succ]
  refine H.tk (i := 18) (v := ?v18) ?h18 hS ?_
  case h18 => (intro w hw; go_simp; first | done | (with_reducible rfl))
  try simp only [Act.put, List.setIfInBounds_toArray, List.set_cons_zero, List.set_cons_succ]
  refine wpAnyH_ready (rs := [19]) (by kernel_rfl) (by simp) ?_
  refine AllReadyH.cons rfl (fun K hK => ?_) AllReadyH.nil
  have cx := bx.cell 12 _ rfl
  have fx := bx.frozen 12
  go_simp
  have bx' := bx.set (i := 12) (v := (.int .i64 m.seq)) (m' := { x0 m with ae := m.ae, pfx := m.pfx, plen := m.plen, seq := m.seq }) rfl
  refine hK.out _ _ (hS.off ⟨w.heap.size + 1, 12, none⟩ (.int .i64 m.seq) rfl) (fun hS' => ?_)
  clear hK K hS bx cx fx
  have hS := hS'
  have bx := bx'
  clear hS' bx'
  generalize World.setCell _ ⟨w.heap.size + 1, 12, none⟩ (.int .i64 m.seq) = W19 at *
  try simp only [Act.put, List.setIfInBounds_toArray, List.set_cons_zero, List.set_cons_succ]
  refine H.tk (i := 20) (v := ?v20) ?h20 hS ?_
  case h20 => (intro w hw; go_simp; first | done | (with_reducible rfl))
  try simp only [Act.put, List.setIfInBounds_toArray, List.set_cons_zero, List.set_cons_succ]
  refine wpAnyH_ready (rs := [21]) (by kernel_rfl) (by simp) ?_
  refine AllReadyH.cons rfl (fun K hK => ?_) AllReadyH.nil
  have cx := bx.cell 16 _ rfl
  have fx := bx.frozen 16
  go_simp
  have bx' := bx.set (i := 16) (v := (.int .i64 m.hops)) (m' := { x0 m with ae := m.ae, pfx := m.pfx, plen := m.plen, seq := m.seq, hops := m.hops }) rfl
  refine hK.out _ _ (hS.off ⟨w.heap.size + 1, 16, none⟩ (.int .i64 m.hops) rfl) (fun hS' => ?_)
  clear hK K hS bx cx fx
  have hS := hS'
  have bx := bx'
  clear hS' bx'
  generalize World.setCell _ ⟨w.heap.size + 1, 16, none⟩ (.int .i64 m.hops) = W21 at *
  try simp only [Act.put, List.setIfInBounds_toArray, List.set_cons_zero, List.set_cons_succ]
  refine H.tk (i := 22) (v := ?v22) ?h22 hS ?_
  case h22 => (intro w hw; go_simp; first | done | (with_reducible rfl))
  try simp only [Act.put, List.setIfInBounds_toArray, List.set_cons_zero, List.set_cons_succ]
  refine wpAnyH_ready (rs := [23]) (by kernel_rfl) (by simp) ?_
  refine AllReadyH.cons rfl (fun K hK => ?_) AllReadyH.nil
  have cx := bx.cell 11 _ rfl
  have fx := bx.frozen 11
  go_simp
  have bx' := bx.set (i := 11) (v := (.string m.id)) (m' := { x0 m with ae := m.ae, pfx := m.pfx, plen := m.plen, seq := m.seq, hops := m.hops, id := m.id }) rfl
  refine hK.out _ _ (hS.off ⟨w.heap.size + 1, 11, none⟩ (.string m.id) rfl) (fun hS' => ?_)
  clear hK K hS bx cx fx
  have hS := hS'
  have bx := bx'
  clear hS' bx'
  generalize World.setCell _ ⟨w.heap.size + 1, 11, none⟩ (.string m.id) = W23 at *
  try simp only [Act.put, List.setIfInBounds_toArray, List.set_cons_zero, List.set_cons_succ]
  refine wpAnyH_done (by kernel_rfl) ?_ _
  have HX := Lib.hid bx
  have HS := Lib.hid hS
  clear bx hS
  go_upto_region 31 with fail
  go_wp2_with (first | (refine wpList_loadM (b := w.heap.size + 1) (m := { x0 m with ae := m.ae, pfx := m.pfx, plen := m.plen, seq := m.seq, hops := m.hops, id := m.id }) rfl _ rfl rfl HX.out ?_) | (refine wpList_loadM (b := w.heap.size) (m := m) rfl _ rfl rfl HS.out.1 ?_))
  refine (rsame_any ({ x0 m with ae := m.ae, pfx := m.pfx, plen := m.plen, seq := m.seq, hops := m.hops, id := m.id }) m _ ⟨DRow.nil _ _, (hm.below HS.out.2).s, (Nat.zero_le _), hm.sl⟩ (hm.below HS.out.2)).mono ?_
  rintro e w' ⟨rfl, hb⟩
  replace hb := bcall HS.out.2 hb
  clear HX HS
  go_wp2
  go_ret
  exact ⟨rfl, hb⟩

set_option maxHeartbeats 6400000 in
set_option maxRecDepth 100000 in
theorem rbare_14 (m : M) (w : World) (hk : m.kind = 14) (hm : m.In w) :
    Calls Tryz.prog 23 #[.agg m.cells] w fun e w' => e = .returned (.bool (M.same { k14 m with kind := 14 } m)) ∧ Below w.heap.size w w' := by
  have HK := Lib.hid hk
  clear hk
  go_enter Tryz.func23, Tryz.ntmps23
  go_upto_region 1 with fail
  have b0 := Bx.new w m
  have hsz := alloc_size w (.cells m.cells 31)
  have c0 := b0.cs.c0
  have c24 := b0.cs.c24
  clear b0
  obtain ⟨hS, bx⟩ := start2 w m (x0 m) M.zero.cells rfl
  have hz := heap_alloc_new (w.alloc (.cells m.cells 31)) (.cells M.zero.cells 31)
  generalize w.alloc (.cells m.cells 31) = V0 at *
  rw [hsz] at hz
  go_upto_region 2 with (first | (refine wpList_built rfl 31 _ rfl (x0 m).cells (by kernel_rfl) ?_) | (change wpList _ _ _ _ _ (V0.alloc (.cells M.zero.cells 31)); refine wpList_storeM (b := w.heap.size + 1) (m := M.zero) (m' := x0 m) rfl _ _ rfl (by first | rfl | (rw [← hsz]; rfl)) rfl hz ?_))
  clear hz c0 c24
  generalize (V0.alloc (.cells M.zero.cells 31)).setRow (w.heap.size + 1) (x0 m).cells = V at *
  clear hsz
  have c0 := hS.1.cs.c0
  rw [HK.out] at c0
  have C := Lib.hid hS.1.cs
  have c22 := C.out.c22
  have c23 := C.out.c23
  have HX := Lib.hid bx
  have HS := Lib.hid hS
  clear bx hS
  go_upto_region 31 with (first | (refine wpList_built rfl 31 _ rfl (M.cells { k14 m with kind := 14 }) (by kernel_rfl) ?_) | (refine wpList_storeM (b := w.heap.size + 1) (m' := { k14 m with kind := 14 }) rfl _ _ rfl rfl rfl HX.out ?_))
  clear C c0 c22 c23
  have hS : S1 w m (V.setRow (w.heap.size + 1) (M.cells { k14 m with kind := 14 })) := ⟨HS.out.1.row (by omega) _, below_setRow HS.out.2 (by omega) _⟩
  have bx := HX.out.put (m' := { k14 m with kind := 14 })
  clear HX HS
  generalize V.setRow (w.heap.size + 1) (M.cells { k14 m with kind := 14 }) = V1 at *
  have HX := Lib.hid bx
  have HS := Lib.hid hS
  clear bx hS
  go_wp2_with (first | (refine wpList_loadM (b := w.heap.size + 1) (m := { k14 m with kind := 14 }) rfl _ rfl rfl HX.out ?_) | (refine wpList_loadM (b := w.heap.size) (m := m) rfl _ rfl rfl HS.out.1 ?_))
  refine (rsame_any ({ k14 m with kind := 14 }) m _ ⟨DRow.nil _ _, SRow.nil _ _, (Nat.zero_le _), (Nat.zero_le _)⟩ (hm.below HS.out.2)).mono ?_
  rintro e w' ⟨rfl, hb⟩
  replace hb := bcall HS.out.2 hb
  clear HX HS
  go_wp2
  go_ret
  exact ⟨rfl, hb⟩

end Go.Proofs.YteecialdkfaejaaGreatDoor.RBare
namespace Go.Proofs.YteecialdkfaejaaGreatDoor.Bare
open Go.ChangeShapes Go.WideShapes Go.ChangeAt Go.RowKit
open Go.Proofs.YteecialdkfaejaaGreatDoor.Ms
open Go.Proofs.YteecialdkfaejaaGreatDoor.Box
open Go.Proofs.YteecialdkfaejaaGreatDoor.Same
open Go.Proofs.YteecialdkfaejaaGreatDoor.SameP
open Go.Proofs.YteecialdkfaejaaGreatDoor.Hs
open Go.Proofs.YteecialdkfaejaaGreatDoor.RSame
open Go.Proofs.YteecialdkfaejaaGreatDoor.Own
open Go.Proofs.YteecialdkfaejaaGreatDoor.RBare
open Go.Proofs.YteecialdkfaejaaGreatDoor.Or
set_option linter.unusedVariables false
set_option maxRecDepth 100000

theorem is_1 {m : M} (h : m.kind = 1) : isKind m = true ∧ ownM m = { k1 m with kind := m.kind } := by
  have hi : isKind m = true := by simp [isKind, h]
  exact ⟨hi, by simp [ownM, hi, fieldsOf, h]⟩
theorem is_2 {m : M} (h : m.kind = 2) : isKind m = true ∧ ownM m = { k2 m with kind := m.kind } := by
  have hi : isKind m = true := by simp [isKind, h]
  exact ⟨hi, by simp [ownM, hi, fieldsOf, h]⟩
theorem is_3 {m : M} (h : m.kind = 3) : isKind m = true ∧ ownM m = { k3 m with kind := m.kind } := by
  have hi : isKind m = true := by simp [isKind, h]
  exact ⟨hi, by simp [ownM, hi, fieldsOf, h]⟩
theorem is_4 {m : M} (h : m.kind = 4) : isKind m = true ∧ ownM m = { k4 m with kind := m.kind } := by
  have hi : isKind m = true := by simp [isKind, h]
  exact ⟨hi, by simp [ownM, hi, fieldsOf, h]⟩
theorem is_5 {m : M} (h : m.kind = 5) : isKind m = true ∧ ownM m = { k5 m with kind := m.kind } := by
  have hi : isKind m = true := by simp [isKind, h]
  exact ⟨hi, by simp [ownM, hi, fieldsOf, h]⟩
theorem is_6 {m : M} (h : m.kind = 6) : isKind m = true ∧ ownM m = { k6 m with kind := m.kind } := by
  have hi : isKind m = true := by simp [isKind, h]
  exact ⟨hi, by simp [ownM, hi, fieldsOf, h]⟩
theorem is_7 {m : M} (h : m.kind = 7) : isKind m = true ∧ ownM m = { k7 m with kind := m.kind } := by
  have hi : isKind m = true := by simp [isKind, h]
  exact ⟨hi, by simp [ownM, hi, fieldsOf, h]⟩
theorem is_8 {m : M} (h : m.kind = 8) : isKind m = true ∧ ownM m = { k8 m with kind := m.kind } := by
  have hi : isKind m = true := by simp [isKind, h]
  exact ⟨hi, by simp [ownM, hi, fieldsOf, h]⟩
theorem is_9 {m : M} (h : m.kind = 9) : isKind m = true ∧ ownM m = { k9 m with kind := m.kind } := by
  have hi : isKind m = true := by simp [isKind, h]
  exact ⟨hi, by simp [ownM, hi, fieldsOf, h]⟩
theorem is_10 {m : M} (h : m.kind = 10) : isKind m = true ∧ ownM m = { k10 m with kind := m.kind } := by
  have hi : isKind m = true := by simp [isKind, h]
  exact ⟨hi, by simp [ownM, hi, fieldsOf, h]⟩
theorem is_11 {m : M} (h : m.kind = 11) : isKind m = true ∧ ownM m = { k11 m with kind := m.kind } := by
  have hi : isKind m = true := by simp [isKind, h]
  exact ⟨hi, by simp [ownM, hi, fieldsOf, h]⟩
theorem is_12 {m : M} (h : m.kind = 12) : isKind m = true ∧ ownM m = { k12 m with kind := m.kind } := by
  have hi : isKind m = true := by simp [isKind, h]
  exact ⟨hi, by simp [ownM, hi, fieldsOf, h]⟩
theorem is_13 {m : M} (h : m.kind = 13) : isKind m = true ∧ ownM m = { k13 m with kind := m.kind } := by
  have hi : isKind m = true := by simp [isKind, h]
  exact ⟨hi, by simp [ownM, hi, fieldsOf, h]⟩
theorem is_14 {m : M} (h : m.kind = 14) : isKind m = true ∧ ownM m = { k14 m with kind := m.kind } := by
  have hi : isKind m = true := by simp [isKind, h]
  exact ⟨hi, by simp [ownM, hi, fieldsOf, h]⟩
theorem is_low {m : M} (h : m.kind < 1) : isKind m = false := by unfold isKind; exact decide_eq_false (by omega)
theorem is_high {m : M} (h : 14 < m.kind) : isKind m = false := by unfold isKind; exact decide_eq_false (by omega)
theorem is_not {m : M} (h : isKind m = false) : ownM m = M.zero := by simp [ownM, h]
theorem own_in {m : M} {w : World} (hm : m.In w) : (ownM m).In w := by
  rcases (show m.kind < 1 ∨ m.kind = 1 ∨ m.kind = 2 ∨ m.kind = 3 ∨ m.kind = 4 ∨ m.kind = 5 ∨ m.kind = 6 ∨ m.kind = 7 ∨ m.kind = 8 ∨ m.kind = 9 ∨ m.kind = 10 ∨ m.kind = 11 ∨ m.kind = 12 ∨ m.kind = 13 ∨ m.kind = 14 ∨ 14 < m.kind by omega) with h | h | h | h | h | h | h | h | h | h | h | h | h | h | h | h
  · rw [is_not (is_low h)]; exact ⟨DRow.nil _ _, SRow.nil _ _, Nat.zero_le _, Nat.zero_le _⟩
  · rw [(is_1 h).2]; exact ⟨DRow.nil _ _, SRow.nil _ _, Nat.zero_le _, Nat.zero_le _⟩
  · rw [(is_2 h).2]; exact ⟨DRow.nil _ _, SRow.nil _ _, Nat.zero_le _, Nat.zero_le _⟩
  · rw [(is_3 h).2]; exact ⟨DRow.nil _ _, hm.s, Nat.zero_le _, hm.sl⟩
  · rw [(is_4 h).2]; exact ⟨DRow.nil _ _, hm.s, Nat.zero_le _, hm.sl⟩
  · rw [(is_5 h).2]; exact ⟨hm.d, hm.s, hm.dl, hm.sl⟩
  · rw [(is_6 h).2]; exact ⟨DRow.nil _ _, hm.s, Nat.zero_le _, hm.sl⟩
  · rw [(is_7 h).2]; exact ⟨DRow.nil _ _, hm.s, Nat.zero_le _, hm.sl⟩
  · rw [(is_8 h).2]; exact ⟨DRow.nil _ _, hm.s, Nat.zero_le _, hm.sl⟩
  · rw [(is_9 h).2]; exact ⟨DRow.nil _ _, hm.s, Nat.zero_le _, hm.sl⟩
  · rw [(is_10 h).2]; exact ⟨DRow.nil _ _, hm.s, Nat.zero_le _, hm.sl⟩
  · rw [(is_11 h).2]; exact ⟨DRow.nil _ _, hm.s, Nat.zero_le _, hm.sl⟩
  · rw [(is_12 h).2]; exact ⟨DRow.nil _ _, hm.s, Nat.zero_le _, hm.sl⟩
  · rw [(is_13 h).2]; exact ⟨DRow.nil _ _, hm.s, Nat.zero_le _, hm.sl⟩
  · rw [(is_14 h).2]; exact ⟨DRow.nil _ _, SRow.nil _ _, Nat.zero_le _, Nat.zero_le _⟩
  · rw [is_not (is_high h)]; exact ⟨DRow.nil _ _, SRow.nil _ _, Nat.zero_le _, Nat.zero_le _⟩

theorem own_any (m : M) (w : World) : Calls Tryz.prog 35 #[.agg m.cells] w fun e w' => e = .returned (.tuple #[.agg (ownM m).cells, .bool (isKind m)]) ∧ Below w.heap.size w w' := by
  rcases (show m.kind < 1 ∨ m.kind = 1 ∨ m.kind = 2 ∨ m.kind = 3 ∨ m.kind = 4 ∨ m.kind = 5 ∨ m.kind = 6 ∨ m.kind = 7 ∨ m.kind = 8 ∨ m.kind = 9 ∨ m.kind = 10 ∨ m.kind = 11 ∨ m.kind = 12 ∨ m.kind = 13 ∨ m.kind = 14 ∨ 14 < m.kind by omega) with h | h | h | h | h | h | h | h | h | h | h | h | h | h | h | h
  · rw [is_not (is_low h), is_low h]; exact own_low m w h
  · rw [(is_1 h).1, (is_1 h).2]; exact own_1 m w h
  · rw [(is_2 h).1, (is_2 h).2]; exact own_2 m w h
  · rw [(is_3 h).1, (is_3 h).2]; exact own_3 m w h
  · rw [(is_4 h).1, (is_4 h).2]; exact own_4 m w h
  · rw [(is_5 h).1, (is_5 h).2]; exact own_5 m w h
  · rw [(is_6 h).1, (is_6 h).2]; exact own_6 m w h
  · rw [(is_7 h).1, (is_7 h).2]; exact own_7 m w h
  · rw [(is_8 h).1, (is_8 h).2]; exact own_8 m w h
  · rw [(is_9 h).1, (is_9 h).2]; exact own_9 m w h
  · rw [(is_10 h).1, (is_10 h).2]; exact own_10 m w h
  · rw [(is_11 h).1, (is_11 h).2]; exact own_11 m w h
  · rw [(is_12 h).1, (is_12 h).2]; exact own_12 m w h
  · rw [(is_13 h).1, (is_13 h).2]; exact own_13 m w h
  · rw [(is_14 h).1, (is_14 h).2]; exact own_14 m w h
  · rw [is_not (is_high h), is_high h]; exact own_high m w h

/-- Is it bare? -/
def bareN (m : M) : Bool := isKind m && M.same m (ownM m)
theorem same_comm (a b : M) : M.same a b = M.same b a := by
  have ei : ∀ x y : Int, (x == y) = (y == x) := fun x y => by rw [Bool.eq_iff_iff, beq_iff_eq, beq_iff_eq]; exact eq_comm
  have es : ∀ x y : List UInt8, (x == y) = (y == x) := fun x y => by rw [Bool.eq_iff_iff, beq_iff_eq, beq_iff_eq]; exact eq_comm
  have ed : ∀ x y : List El, decide (x = y) = decide (y = x) := fun x y => decide_eq_decide.2 eq_comm
  unfold M.same M.flatE
  rw [ei a.kind, ei a.cmd, ei a.ver, es a.auth.toList, ei a.family, ei a.ae, es a.pfx.toList, ei a.plen, ei a.tag, es a.next.toList, ei a.metric, es a.id.toList, ei a.seq, ei a.seq2, ei a.interval, ei a.flags, ei a.hops, ei a.nonce, ei a.cost, es a.addr.toList, es a.orig.toList, ei a.typ, es a.data.toList, ed a.ll, ed a.sl]

set_option maxHeartbeats 1600000 in
set_option maxRecDepth 100000 in
theorem bare_any (m : M) (w : World) (hm : m.In w) :
    Calls Tryz.prog 18 #[.agg m.cells] w fun e w' => e = .returned (.bool (bareN m)) ∧ Below w.heap.size w w' := by
  have HB := Lib.hid (show bareN m = (isKind m && M.same m (ownM m)) from rfl)
  have P := Lib.hid (fun w => own_any m w)
  have PS := Lib.hid (fun w (hm : m.In w) => same_any m (ownM m) w hm (own_in hm))
  generalize ownM m = o at *
  have hb := Lib.hid (Bx.new w m)
  have bel := balloc (Below.refl _ w) (.cells m.cells 31)
  have hm1 := hm.below bel
  clear hm
  cases hk : isKind m
  all_goals
    rw [hk] at P HB
    have HK := Lib.hid hk
    clear hk
    go_enter Tryz.func18, Tryz.ntmps18
    go_upto_region 1 with fail
    generalize w.alloc (.cells m.cells 31) = V at *
    go_wp2_with (first | (refine wpList_loadM (b := w.heap.size) (m := m) rfl _ rfl rfl hb.out ?_))
    refine (P.out _).mono ?_
    rintro e V ⟨rfl, hb1⟩
    have bel := bcall bel hb1
    have hb := Lib.hid (hb.out.below hb1)
    have hm1 := hm1.below hb1
    clear hb1 P
    go_upto_region 2 with (first | (refine wpList_storeM (m := M.zero) (m' := o) rfl _ _ rfl rfl rfl (heap_alloc_new _ _) ?_))
    change Code.wp _ _ _ _ ((V.alloc (.cells M.zero.cells 31)).setRow V.heap.size o.cells)
    rw [World.setRow_alloc_new]
    have B1 := Lib.hid (hb.out.old (.cells o.cells 31))
    have B2 := Lib.hid (Bx.new V o)
    have HB2 := Lib.hid (balloc bel (.cells o.cells 31))
    have HM := Lib.hid (hm1.below (balloc (Below.refl _ V) (.cells o.cells 31)))
    clear hb bel hm1
    generalize V.alloc (.cells o.cells 31) = V1 at *
  · go_wp2
    go_ret
    exact ⟨bool_eq (by rw [HB.out]; rfl), HB2.out⟩
  · go_wp2_with (first | (refine st_yes (v := .agg (M.cells m)) (by rfl) rfl (run_loadM (x := .tmp 1) rfl rfl B1.out) ?_) | (refine st_yes (v := .agg (M.cells o)) (by rfl) rfl (run_loadM (x := .tmp 3) rfl rfl B2.out) ?_))
    refine (PS.out _ HM.out).mono ?_
    rintro e w3 ⟨rfl, hb3⟩
    have HB3 := Lib.hid (bcall HB2.out hb3)
    clear hb3
    go_wp2
    go_ret
    exact ⟨bool_eq (by rw [HB.out]; simp), HB3.out⟩

set_option maxHeartbeats 6400000 in
set_option maxRecDepth 100000 in
theorem rbare_no (m : M) (w : World) (hk : m.kind < 1 ∨ 14 < m.kind) :
    Calls Tryz.prog 23 #[.agg m.cells] w fun e w' => e = .returned (.bool false) ∧ Below w.heap.size w w' := by
  have HK := Lib.hid hk
  clear hk
  go_enter Tryz.func23, Tryz.ntmps23
  go_upto_region 1 with fail
  have b0 := Bx.new w m
  have hsz := alloc_size w (.cells m.cells 31)
  have c0 := b0.cs.c0
  have c24 := b0.cs.c24
  clear b0
  obtain ⟨hS, bx⟩ := start2 w m (x0 m) M.zero.cells rfl
  have hz := heap_alloc_new (w.alloc (.cells m.cells 31)) (.cells M.zero.cells 31)
  generalize w.alloc (.cells m.cells 31) = V0 at *
  rw [hsz] at hz
  go_upto_region 2 with (first | (refine wpList_built rfl 31 _ rfl (x0 m).cells (by kernel_rfl) ?_) | (change wpList _ _ _ _ _ (V0.alloc (.cells M.zero.cells 31)); refine wpList_storeM (b := w.heap.size + 1) (m := M.zero) (m' := x0 m) rfl _ _ rfl (by first | rfl | (rw [← hsz]; rfl)) rfl hz ?_))
  clear hz c0 c24
  generalize (V0.alloc (.cells M.zero.cells 31)).setRow (w.heap.size + 1) (x0 m).cells = V at *
  clear hsz bx
  have c0 := hS.1.cs.c0
  have HS := Lib.hid hS.2
  clear hS
  rcases HK.out with hk | hk
  · go_wp2
    go_ret
    exact ⟨rfl, HS.out⟩
  · go_wp2
    go_ret
    exact ⟨rfl, HS.out⟩

theorem rbare_any (m : M) (w : World) (hm : m.In w) :
    Calls Tryz.prog 23 #[.agg m.cells] w fun e w' => e = .returned (.bool (bareN m)) ∧ Below w.heap.size w w' := by
  rcases (show m.kind < 1 ∨ m.kind = 1 ∨ m.kind = 2 ∨ m.kind = 3 ∨ m.kind = 4 ∨ m.kind = 5 ∨ m.kind = 6 ∨ m.kind = 7 ∨ m.kind = 8 ∨ m.kind = 9 ∨ m.kind = 10 ∨ m.kind = 11 ∨ m.kind = 12 ∨ m.kind = 13 ∨ m.kind = 14 ∨ 14 < m.kind by omega) with h | h | h | h | h | h | h | h | h | h | h | h | h | h | h | h
  · rw [show bareN m = false by simp [bareN, is_low h]]; exact rbare_no m w (.inl h)
  · rw [show bareN m = M.same { k1 m with kind := 1 } m by rw [bareN, (is_1 h).1, (is_1 h).2, same_comm, h]; rfl]; exact rbare_1 m w h hm
  · rw [show bareN m = M.same { k2 m with kind := 2 } m by rw [bareN, (is_2 h).1, (is_2 h).2, same_comm, h]; rfl]; exact rbare_2 m w h hm
  · rw [show bareN m = M.same { k3 m with kind := m.kind } m by rw [bareN, (is_3 h).1, (is_3 h).2, same_comm]; rfl]; exact rbare_3 m w h hm
  · rw [show bareN m = M.same { k4 m with kind := m.kind } m by rw [bareN, (is_4 h).1, (is_4 h).2, same_comm]; rfl]; exact rbare_4 m w h hm
  · rw [show bareN m = M.same { k5 m with kind := m.kind } m by rw [bareN, (is_5 h).1, (is_5 h).2, same_comm]; rfl]; exact rbare_5 m w h hm
  · rw [show bareN m = M.same { k6 m with kind := m.kind } m by rw [bareN, (is_6 h).1, (is_6 h).2, same_comm]; rfl]; exact rbare_6 m w h hm
  · rw [show bareN m = M.same { k7 m with kind := m.kind } m by rw [bareN, (is_7 h).1, (is_7 h).2, same_comm]; rfl]; exact rbare_7 m w h hm
  · rw [show bareN m = M.same { k8 m with kind := m.kind } m by rw [bareN, (is_8 h).1, (is_8 h).2, same_comm]; rfl]; exact rbare_8 m w h hm
  · rw [show bareN m = M.same { k9 m with kind := m.kind } m by rw [bareN, (is_9 h).1, (is_9 h).2, same_comm]; rfl]; exact rbare_9 m w h hm
  · rw [show bareN m = M.same { k10 m with kind := m.kind } m by rw [bareN, (is_10 h).1, (is_10 h).2, same_comm]; rfl]; exact rbare_10 m w h hm
  · rw [show bareN m = M.same { k11 m with kind := m.kind } m by rw [bareN, (is_11 h).1, (is_11 h).2, same_comm]; rfl]; exact rbare_11 m w h hm
  · rw [show bareN m = M.same { k12 m with kind := m.kind } m by rw [bareN, (is_12 h).1, (is_12 h).2, same_comm]; rfl]; exact rbare_12 m w h hm
  · rw [show bareN m = M.same { k13 m with kind := m.kind } m by rw [bareN, (is_13 h).1, (is_13 h).2, same_comm]; rfl]; exact rbare_13 m w h hm
  · rw [show bareN m = M.same { k14 m with kind := 14 } m by rw [bareN, (is_14 h).1, (is_14 h).2, same_comm, h]; rfl]; exact rbare_14 m w h hm
  · rw [show bareN m = false by simp [bareN, is_high h]]; exact rbare_no m w (.inr h)
end Go.Proofs.YteecialdkfaejaaGreatDoor.Bare
