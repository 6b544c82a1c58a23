/-
  The statement RouteTells, of any message, encoding, address and length. Condition: the listed variable has what the program's text lays it with (the tied card).
-/
import Derived.Test.YtkhdllhlhpkekaaDoorJ9
import Derived.Test.YtkhdllhlhpkekaaDoorCards
import Derived.Test.YtkhdllhlhpkekaaDoorTie
import Derived.Lay
import Derived.SevenTiedAt
import Derived.Stop.Joined
namespace Go.Proofs.YtkhdllhlhpkekaaDoor.routeTells
open Go.ChangeShapes Go.WideShapes Go.ChangeAt Go.RowKit
open Go.ChangeMaps (open_string shut_string)
open Go.Proofs.YtkhdllhlhpkekaaDoor.Ms
open Go.Proofs.YtkhdllhlhpkekaaDoor.Box
open Go.Proofs.YtkhdllhlhpkekaaDoor.S1
open Go.Proofs.YtkhdllhlhpkekaaDoor.J1
open Go.Proofs.YtkhdllhlhpkekaaDoor.An
open Go.Proofs.YtkhdllhlhpkekaaDoor.Tc
open Go.Proofs.YtkhdllhlhpkekaaDoor.J9
open Go.Proofs.YtkhdllhlhpkekaaDoor.Hs
open Go.Proofs.YtkhdllhlhpkekaaDoor.Open
set_option linter.unusedVariables false

open Go.Proofs.YtkhdllhlhpkekaaDoor.Tl (cellsT)
open Go.Proofs.YtkhdllhlhpkekaaDoor.Or (st_yes)
open Go.Proofs.YtkhdllhlhpkekaaDoor.Hx (ex_built)
open Go.Proofs.YtkhdllhlhpkekaaDoor.Bk (Bk)
open Go.Proofs.YtkhdllhlhpkekaaDoor.J4 (shU wpList_loadU wpList_storeU)
open Go.Proofs.YtkhdllhlhpkekaaDoor.J6 (AnsU)
theorem cell_ask {w : World} {b : Nat} {m : M} {ae p : Int} {a : ByteArray} (h : Bk 27 w b (askR m ae a p)) : w.cell? ⟨b, 25, none⟩ = some (.int .i64 ae) ∧ w.cell? ⟨b, 26, none⟩ = some (.string a) ∧ w.cell? ⟨b, 27, none⟩ = some (.int .i64 p) :=
  ⟨h.cell 25 _ rfl, h.cell 26 _ rfl, h.cell 27 _ rfl⟩
theorem loadVarA {w : World} {b : Nat} {m : M} {ae p : Int} {a : ByteArray} (h : Bk 27 w b (askR m ae a p)) : (loadVar 25 ⟨b, 0, none⟩).run Tryd.prog w = .ok (.agg m.cells) w := by
  have hl : (loadCells ⟨b, 0, none⟩ 25).run Tryd.prog w = .ok m.cells w := by
    have := run_loadCells_list (P := Tryd.prog) w ⟨b, 0, none⟩ m.cells.toList (fun j v hv => by
      have hj : j < m.cells.size := by have := (List.getElem?_eq_some_iff.1 hv).1; simpa using this
      rw [Sx.add_at, Nat.zero_add]
      refine h.cell j v ?_
      unfold askR
      rw [Array.getElem?_append_left hj]
      simpa using hv)
    rw [show m.cells.toList.length = 25 from rfl] at this
    rw [this]
  have hagg : (isAgg 25).run Tryd.prog w = .ok true w := by go_simp
  have hsz : (sizeOf 25).run Tryd.prog w = .ok 25 w := by go_simp
  simp only [loadVar, Sem.run_bind, hagg, Result.andThen_ok, if_true, hsz, hl, Sem.run_pure]
theorem run_loadA {o : Oper} {ρ : Operand → Value} {x : Operand} {b : Nat} {m : M} {ae p : Int} {a : ByteArray} {w : World} (ho : o.op = .load 25 x) (hx : ρ x = .pointer (some ⟨b, 0, none⟩)) (hb : Bk 27 w b (askR m ae a p)) :
    (execOp ρ o).run Tryd.prog w = .ok (.value (.agg m.cells)) w := by
  unfold execOp
  simp only [ho, hx, Instr.loadAt, Instr.sureAddr, Sem.run_bind, Sem.run_pure, Result.andThen_ok, loadVarA hb]

set_option maxHeartbeats 12800000 in
set_option maxRecDepth 100000 in
theorem walk (m : M) (ae : Int) (a : ByteArray) (p : Int) (w : World) (hd : DRow w m.la m.ll) (hs : SRow w m.sa m.sl) (hp : m.pfx.size ≤ maxLen) (hm : a.size ≤ maxLen) (ht : Tab w) :
    Calls Tryd.prog 3 #[.agg (askR m ae a p)] w fun r w' => r = .returned (.bool true) ∧ Below w.heap.size w w' := by
  go_enter Tryd.func3, Tryd.ntmps3
  go_upto_region 1 with fail
  change Code.wp _ _ _ _ (w.alloc (.cells (askR m ae a p) 27))
  have A0 := Bk.Bk.new 27 w (askR m ae a p)
  have HB := Lib.hid (balloc (Below.refl _ w) (.cells (askR m ae a p) 27))
  generalize w.alloc (.cells (askR m ae a p) 27) = W0 at *
  have hk0 := A0.lt
  refine wp_region_held_drew (S := fun W => Bk 27 W w.heap.size (askR m ae a p)) (by kernel_rfl) A0.drew (fun hS => ?_)
  have HB := Lib.hid HB.out.drew
  have hk0 : w.heap.size < W0.drew.heap.size := hk0
  clear A0
  generalize W0.drew = X0 at *
  refine H.tk (i := 0) (v := ?v0) ?h0 hS ?_
  case h0 => (intro w hw; go_simp; first | done | (with_reducible rfl))
  try simp only [Act.put, List.setIfInBounds_toArray, List.set_cons_zero, List.set_cons_succ]
  refine H.tk (i := 1) (v := .agg (M.cells m)) ?h1 hS ?_
  case h1 => exact (fun w hw => run_loadA (x := .tmp 11) rfl rfl hw)
  try simp only [Act.put, List.setIfInBounds_toArray, List.set_cons_zero, List.set_cons_succ]
  refine H.tk (i := 2) (v := ?v2) ?h2 hS ?_
  case h2 => (intro w hw; go_simp; first | done | (with_reducible rfl))
  try simp only [Act.put, List.setIfInBounds_toArray, List.set_cons_zero, List.set_cons_succ]
  refine H.tk (i := 3) (v := ?v3) ?h3 hS ?_
  case h3 => (intro w hw; have c := (cell_ask hw).1; go_simp; first | done | (with_reducible rfl))
  try simp only [Act.put, List.setIfInBounds_toArray, List.set_cons_zero, List.set_cons_succ]
  refine H.tk (i := 4) (v := ?v4) ?h4 hS ?_
  case h4 => (intro w hw; go_simp; first | done | (with_reducible rfl))
  try simp only [Act.put, List.setIfInBounds_toArray, List.set_cons_zero, List.set_cons_succ]
  refine H.tk (i := 5) (v := ?v5) ?h5 hS ?_
  case h5 => (intro w hw; have c := (cell_ask hw).2.1; go_simp; first | done | (with_reducible rfl))
  try simp only [Act.put, List.setIfInBounds_toArray, List.set_cons_zero, List.set_cons_succ]
  refine H.tk (i := 6) (v := ?v6) ?h6 hS ?_
  case h6 => (intro w hw; go_simp; first | done | (with_reducible rfl))
  try simp only [Act.put, List.setIfInBounds_toArray, List.set_cons_zero, List.set_cons_succ]
  refine H.tk (i := 7) (v := ?v7) ?h7 hS ?_
  case h7 => (intro w hw; have c := (cell_ask hw).2.2; go_simp; first | done | (with_reducible rfl))
  try simp only [Act.put, List.setIfInBounds_toArray, List.set_cons_zero, List.set_cons_succ]
  refine wpAnyH_ready (rs := [8]) (by kernel_rfl) (by simp) ?_
  refine AllReadyH.cons rfl (fun K hK => ?_) AllReadyH.nil
  go_simp
  have hS' := hS.old (.cells M.zero.cells 25)
  refine hK.out _ _ hS' (fun _ => ?_)
  clear hK K hS
  have hS := hS'
  clear hS'
  try simp only [Act.put, List.setIfInBounds_toArray, List.set_cons_zero, List.set_cons_succ]
  change wpAnyH _ _ _ _ _ _ _ _ (X0.alloc (.cells M.zero.cells 25))
  have hS' := (show Bk 27 ((X0.alloc (.cells M.zero.cells 25)).setRow X0.heap.size (M.cells m)) w.heap.size (askR m ae a p) from hS.row (by omega) _)
  refine Hx.H.storeRow (i := 9) (by simp only [List.getElem?_toArray, List.getElem?_cons_succ, List.getElem?_cons_zero]; rfl) (by kernel_rfl) rfl rfl (by kernel_rfl) X0.heap.size (M.cells m) rfl rfl 25 M.zero.cells (heap_alloc_new _ _) infoM rfl (oneM _) hS' ?_
  clear hS
  have hS := hS'
  clear hS'
  refine H.tk (i := 10) (v := ?v10) ?h10 hS ?_
  case h10 => (intro w hw; go_simp; first | done | (with_reducible rfl))
  try simp only [Act.put, List.setIfInBounds_toArray, List.set_cons_zero, List.set_cons_succ]
  refine H.tk (i := 11) (v := ?v11) ?h11 hS ?_
  case h11 => (intro w hw; go_simp; first | done | (with_reducible rfl))
  try simp only [Act.put, List.setIfInBounds_toArray, List.set_cons_zero, List.set_cons_succ]
  refine H.tk (i := 12) (v := ?v12) ?h12 hS ?_
  case h12 => (intro w hw; go_simp; first | done | (with_reducible rfl))
  try simp only [Act.put, List.setIfInBounds_toArray, List.set_cons_zero, List.set_cons_succ]
  refine wpAnyH_done (by kernel_rfl) ?_ _
  rw [World.setRow_alloc_new]
  have B0 := Lib.hid (Bx.new X0 m)
  have bel := balloc (Below.refl X0.heap.size X0) (.cells (M.cells m) 25)
  have HB := Lib.hid (bcall HB.out bel)
  have HT := Lib.hid (ht.below HB.out)
  have hd := hd.below HB.out
  have hs := hs.below HB.out
  have PF := Lib.hid (Few.few_any m _ hd hs)
  clear hS bel ht hk0
  generalize X0.alloc (.cells (M.cells m) 25) = V at *
  generalize X0.heap.size = g at *
  by_cases hf : Few.fewB m = true
  rotate_left
  · have hf : Few.fewB m = false := by simpa using hf
    rw [hf] at PF
    clear hf hd hs
    go_wp2_with (first | (refine wpList_loadM (b := g) (m := m) rfl _ rfl rfl B0.out ?_))
    refine PF.out.mono ?_
    rintro r w1 ⟨rfl, hb⟩
    have HT := Lib.hid (HT.out.below hb)
    have HB := Lib.hid (bcall HB.out hb)
    clear hb PF B0
    go_wp2_with fail
    refine (awake_any _ HT.out).mono ?_
    rintro r w2 ⟨rfl, hb⟩
    have HB := Lib.hid (bcall HB.out hb)
    clear hb
    go_wp2
    go_ret
    exact ⟨rfl, HB.out⟩
  have hi := few_in hf hd hs
  obtain ⟨_, hl, hz⟩ := few_parts hf
  rw [hf] at PF
  clear hf hd hs
  by_cases hz1 : a.size ≤ 100
  rotate_left
  · have hz2 : 100 < (a.size : Int) := by omega
    clear hi hl hz
    go_wp2_with (first | (refine wpList_loadM (b := g) (m := m) rfl _ rfl rfl B0.out ?_))
    refine PF.out.mono ?_
    rintro r w1 ⟨rfl, hb⟩
    have HT := Lib.hid (HT.out.below hb)
    have HB := Lib.hid (bcall HB.out hb)
    clear hb PF B0
    go_wp2_with fail
    refine (awake_any _ HT.out).mono ?_
    rintro r w2 ⟨rfl, hb⟩
    have HB := Lib.hid (bcall HB.out hb)
    clear hb
    go_wp2
    go_ret
    exact ⟨rfl, HB.out⟩
  have hz2 : ¬ 100 < (a.size : Int) := by omega
  have P1 := Lib.hid (fun V (h : m.In V) (q : Tab V) => J3.put_any m V h (by omega) hz hp q)
  have P2 := Lib.hid (fun V (h : m.In V) => J7.rput_any m V h (by omega) hz hp)
  have P3 := Lib.hid (fun V (h : m.In V) (q : Tab V) => Jr.right_any m V h hz hp q)
  have P4 := Lib.hid (fun V (h : m.In V) => Jr.rright_any m V h hz hp)
  have P5 := Lib.hid (fun V (q : Tab V) => J2.in_any ae a p V hm q)
  have P6 := Lib.hid (fun V => J2.rin_any ae a p V hm)
  have e1 := bytes_same (putJ m)
  have HF := Lib.hid (show FT w g m V from ⟨⟨B0.out, hi, HB.out⟩, HT.out⟩)
  generalize putJ m = z at *
  generalize okJ m = x at *
  generalize inB ae a p = y at *
  have e2 : (x == x) = true := by simp
  have e3 : (y == y) = true := by simp
  clear hi hl hz hp hm hz1 B0 HB HT
  go_wp2_with (first | (refine wpList_loadM (b := g) (m := m) rfl _ rfl rfl HF.out.1.m ?_))
  refine (PF.out).mono ?_
  rintro r w1 ⟨rfl, hb⟩
  have HF := Lib.hid (HF.out.call hb)
  clear hb
  go_wp2_with (first | (refine wpList_loadM (b := g) (m := m) rfl _ rfl rfl HF.out.1.m ?_))
  refine (P1.out _ HF.out.1.i HF.out.2).mono ?_
  rintro r w2 ⟨rfl, hb⟩
  have HF := Lib.hid (HF.out.call hb)
  clear hb
  go_wp2_with (first | (refine wpList_loadM (b := g) (m := m) rfl _ rfl rfl HF.out.1.m ?_))
  refine (P2.out _ HF.out.1.i).mono ?_
  rintro r w3 ⟨rfl, hb⟩
  have HF := Lib.hid (HF.out.call hb)
  clear hb
  go_upto_region 6 with fail
  refine wp_region_held_drew (S := FT w g m) (by kernel_rfl) HF.out.drew (fun hS => ?_)
  clear HF
  generalize w3.drew = X0 at *
  refine wpAnyH_ready (rs := [0]) (by kernel_rfl) (by simp) ?_
  refine AllReadyH.cons rfl (fun K hK => ?_) AllReadyH.nil
  go_simp
  refine (heldT (awake_any _ hS.2) hS).mono ?_
  rintro e w0 ⟨rfl, hS0⟩
  refine hK.out _ _ hS0 (fun _ => ?_)
  clear hK K hS
  have hS := hS0
  clear hS0
  try simp only [Act.put, List.setIfInBounds_toArray, List.set_cons_zero, List.set_cons_succ]
  refine H.tk (i := 1) (v := (.bool true)) (fun w _ => rfl) hS ?_
  try simp only [Act.put, List.setIfInBounds_toArray, List.set_cons_zero, List.set_cons_succ]
  refine H.tk (i := 2) (v := ?v2b) ?h2b hS ?_
  case h2b => (intro w hw; go_simp; first | done | (with_reducible rfl))
  try simp only [Act.put, List.setIfInBounds_toArray, List.set_cons_zero, List.set_cons_succ]
  refine H.tk (i := 3) (v := ?v3b) ?h3b hS ?_
  case h3b => (intro w hw; go_simp; first | done | (with_reducible rfl))
  try simp only [Act.put, List.setIfInBounds_toArray, List.set_cons_zero, List.set_cons_succ]
  refine H.tk (i := 4) (v := ?v4b) ?h4b hS ?_
  case h4b => (intro w hw; go_simp; first | done | (with_reducible rfl))
  try simp only [Act.put, List.setIfInBounds_toArray, List.set_cons_zero, List.set_cons_succ]
  refine H.tk (i := 6) (v := ?v6b) ?h6b hS ?_
  case h6b => (intro w hw; go_simp; first | done | (with_reducible rfl))
  try simp only [Act.put, List.setIfInBounds_toArray, List.set_cons_zero, List.set_cons_succ]
  refine H.tk (i := 7) (v := ?v7b) ?h7b hS ?_
  case h7b => (intro w hw; go_simp; first | done | (with_reducible rfl))
  try simp only [Act.put, List.setIfInBounds_toArray, List.set_cons_zero, List.set_cons_succ]
  refine H.tk (i := 8) (v := ?v8b) ?h8b hS ?_
  case h8b => (intro w hw; go_simp; first | done | (with_reducible rfl))
  try simp only [Act.put, List.setIfInBounds_toArray, List.set_cons_zero, List.set_cons_succ]
  refine wpAnyH_ready (rs := [5]) (by kernel_rfl) (by simp) ?_
  refine AllReadyH.cons rfl (fun K hK => ?_) AllReadyH.nil
  go_simp
  refine (heldT (P5.out _ hS.2) hS).mono ?_
  rintro e w5 ⟨rfl, hS5⟩
  refine hK.out _ _ hS5 (fun _ => ?_)
  clear hK K hS
  have hS := hS5
  clear hS5
  try simp only [Act.put, List.setIfInBounds_toArray, List.set_cons_zero, List.set_cons_succ]
  refine wpAnyH_ready (rs := [9]) (by kernel_rfl) (by simp) ?_
  refine AllReadyH.cons rfl (fun K hK => ?_) AllReadyH.nil
  go_simp
  refine (heldT (P6.out _) hS).mono ?_
  rintro e w9 ⟨rfl, hS9⟩
  refine hK.out _ _ hS9 (fun _ => ?_)
  clear hK K hS
  have hS := hS9
  clear hS9
  try simp only [Act.put, List.setIfInBounds_toArray, List.set_cons_zero, List.set_cons_succ]
  refine H.tk (i := 10) (v := .bool true) ?h10b hS ?_
  case h10b => exact (fun w hw => by go_simp)
  try simp only [Act.put, List.setIfInBounds_toArray, List.set_cons_zero, List.set_cons_succ]
  refine H.tk (i := 11) (v := (.bool true)) (fun w _ => rfl) hS ?_
  try simp only [Act.put, List.setIfInBounds_toArray, List.set_cons_zero, List.set_cons_succ]
  refine H.tk (i := 12) (v := (.bool true)) (fun w _ => rfl) hS ?_
  try simp only [Act.put, List.setIfInBounds_toArray, List.set_cons_zero, List.set_cons_succ]
  refine H.tk (i := 13) (v := .agg (M.cells m)) ?h13b hS ?_
  case h13b => exact fun w hw => run_loadM (x := .tmp 3) rfl rfl (hw.1.m)
  try simp only [Act.put, List.setIfInBounds_toArray, List.set_cons_zero, List.set_cons_succ]
  refine H.tk (i := 15) (v := .agg (M.cells m)) ?h15b hS ?_
  case h15b => exact fun w hw => run_loadM (x := .tmp 3) rfl rfl (hw.1.m)
  try simp only [Act.put, List.setIfInBounds_toArray, List.set_cons_zero, List.set_cons_succ]
  refine wpAnyH_ready (rs := [14]) (by kernel_rfl) (by simp) ?_
  refine AllReadyH.cons rfl (fun K hK => ?_) AllReadyH.nil
  go_simp
  refine (heldT (P3.out _ hS.1.i hS.2) hS).mono ?_
  rintro e w14 ⟨rfl, hS14⟩
  refine hK.out _ _ hS14 (fun _ => ?_)
  clear hK K hS
  have hS := hS14
  clear hS14
  try simp only [Act.put, List.setIfInBounds_toArray, List.set_cons_zero, List.set_cons_succ]
  refine wpAnyH_ready (rs := [16]) (by kernel_rfl) (by simp) ?_
  refine AllReadyH.cons rfl (fun K hK => ?_) AllReadyH.nil
  go_simp
  refine (heldT (P4.out _ hS.1.i) hS).mono ?_
  rintro e w16 ⟨rfl, hS16⟩
  refine hK.out _ _ hS16 (fun _ => ?_)
  clear hK K hS
  have hS := hS16
  clear hS16
  try simp only [Act.put, List.setIfInBounds_toArray, List.set_cons_zero, List.set_cons_succ]
  refine H.tk (i := 17) (v := .bool true) ?h17b hS ?_
  case h17b => exact (fun w hw => by go_simp)
  try simp only [Act.put, List.setIfInBounds_toArray, List.set_cons_zero, List.set_cons_succ]
  refine H.tk (i := 18) (v := (.bool true)) (fun w _ => rfl) hS ?_
  try simp only [Act.put, List.setIfInBounds_toArray, List.set_cons_zero, List.set_cons_succ]
  refine H.tk (i := 19) (v := (.bool true)) (fun w _ => rfl) hS ?_
  try simp only [Act.put, List.setIfInBounds_toArray, List.set_cons_zero, List.set_cons_succ]
  refine H.tk (i := 20) (v := ?v20b) ?h20b hS ?_
  case h20b => (intro w hw; go_simp; first | done | (with_reducible rfl))
  try simp only [Act.put, List.setIfInBounds_toArray, List.set_cons_zero, List.set_cons_succ]
  refine H.tk (i := 21) (v := ?v21b) ?h21b hS ?_
  case h21b => (intro w hw; go_simp; first | done | (with_reducible rfl))
  try simp only [Act.put, List.setIfInBounds_toArray, List.set_cons_zero, List.set_cons_succ]
  refine H.tk (i := 22) (v := .bool true) ?h22b hS ?_
  case h22b => exact (fun w hw => by go_simp)
  try simp only [Act.put, List.setIfInBounds_toArray, List.set_cons_zero, List.set_cons_succ]
  refine H.tk (i := 23) (v := (.bool true)) (fun w _ => rfl) hS ?_
  try simp only [Act.put, List.setIfInBounds_toArray, List.set_cons_zero, List.set_cons_succ]
  refine H.tk (i := 24) (v := (.bool true)) (fun w _ => rfl) hS ?_
  try simp only [Act.put, List.setIfInBounds_toArray, List.set_cons_zero, List.set_cons_succ]
  refine H.tk (i := 25) (v := ?v25b) ?h25b hS ?_
  case h25b => (intro w hw; go_simp; first | done | (with_reducible rfl))
  try simp only [Act.put, List.setIfInBounds_toArray, List.set_cons_zero, List.set_cons_succ]
  refine H.tk (i := 26) (v := ?v26b) ?h26b hS ?_
  case h26b => (intro w hw; go_simp; first | done | (with_reducible rfl))
  try simp only [Act.put, List.setIfInBounds_toArray, List.set_cons_zero, List.set_cons_succ]
  refine H.tk (i := 27) (v := .bool true) ?h27b hS ?_
  case h27b => exact (fun w hw => by go_simp)
  try simp only [Act.put, List.setIfInBounds_toArray, List.set_cons_zero, List.set_cons_succ]
  refine H.tk (i := 28) (v := (.bool true)) (fun w _ => rfl) hS ?_
  try simp only [Act.put, List.setIfInBounds_toArray, List.set_cons_zero, List.set_cons_succ]
  refine H.tk (i := 29) (v := (.bool true)) (fun w _ => rfl) hS ?_
  try simp only [Act.put, List.setIfInBounds_toArray, List.set_cons_zero, List.set_cons_succ]
  refine wpAnyH_done (by kernel_rfl) ?_ _
  go_wp2
  go_ret
  exact ⟨rfl, hS.1.bel⟩

theorem own : ownKnob Tryd.prog.godebug = none := by kernel_rfl

set_option maxRecDepth 100000 in
theorem lifted (os : Os) (started : os.Started) (H : Type) (enc : TypeId × Value → H) :
    ReturnsInHanded {} Tryd.checked os 3 .any (fun w args => (Rows.routeTellsSpec.pre enc Tryd.prog Tryd.f3 Rows.routeTellsRow.domain false w args ∧ laidMetH Tryd.prog Rows.routeTellsRow.laid w) ∧ sizedMet enc Tryd.prog Tryd.f3 (OpenSpec.ofChange Rows.routeTellsSpec) false w args)
      (Rows.routeTellsSpec.post enc Tryd.prog Tryd.f3 false true false false) := by
  refine returnsInHanded_of_change_and (C := Tryd.checked) (X := fun w _ => laidMetH Tryd.prog Rows.routeTellsRow.laid w) (fun _ _ _ hh h => h.of_heap hh) own started (by kernel_rfl) Tryd.func3
    (ChangeSpec.witness_shaped (enc := enc) (C := Tryd.checked) (os := os) (X := fun w _ => laidMetH Tryd.prog Rows.routeTellsRow.laid w) false (World.laidAll Tryd.prog os Rows.routeTellsRow.laid) #[.agg (askR M.zero 0 ByteArray.empty 0)] 8 (World.laidAll_os _ _ _)
      (World.shaped_of_ZipB (by kernel_rfl) (by kernel_rfl)) (by kernel_rfl) (by kernel_rfl) (by kernel_rfl)
      (by rw [MakeChecks.laidMetH_plain _ _ _ (by kernel_rfl)]; exact laidMet_laidAll _ (by kernel_rfl) (by kernel_rfl))) ?_
  intro W base args ds gs before hval0 hW _ _ hL0 _
  have hMet := of_laid hL0
  have hval : ∀ (j : Nat) t v, Tryd.f3.params[j]? = some t → args[j]? = some v → Value.okWide Tryd.prog W .any base t v := hval0
  have hW' := hW
  have hlt := fun x hx => hW'.lt x hx
  obtain ⟨p, q, hA0, hV, rfl, hfz, hnd⟩ := hW
  have hA : DataW.TrodAll enc Tryd.prog W 0 (fun _ => true) true Tryd.f3.params.toList args.toList ds p := hA0
  rw [Tryd.params3] at hA hval
  obtain ⟨v0, vs0, d0, ds0, p0, q0, hargs, rfl, rfl, h0, r0⟩ := trodAll_cons hA
  obtain ⟨rfl, rfl, rfl⟩ := trodAll_nil r0
  obtain rfl : args = #[v0] := by cases args; simp_all
  obtain ⟨rfl, rfl⟩ := trodVars_none hV
  obtain ⟨m, ae, a, p, rfl, hd, hs, hp, hm⟩ := by_askR (hval 0 27 v0 rfl rfl) h0
  clear hA0 hval0
  simp only [List.append_nil] at hW' hlt
  refine (walk m ae a p W hd hs hp hm hMet).mono fun e W' ⟨he, hg⟩ => ?_
  subst he
  exact ⟨_, rfl, _, _, _, [], _, [], hW', trodAll_mk1 (shut_bool Tryd.underlying4 _), (trodAll_cons_mk (again (by kernel_rfl) (of_decide_eq_true (by kernel_rfl)) h0 hg fun x hx => hlt x (by first | exact absurd hx (by simp) | simp [hx])) trodAll_mk0), rfl, hg.frame _, fun h => by cases h⟩

theorem over : Rows.RouteTellsSaid :=
  OpenClaim.holds_of_wide 3 Tryd.f3 rfl rfl rfl rfl rfl rfl rfl ⟨rfl, rfl, rfl, rfl, rfl⟩ rfl rfl rfl rfl rfl (by kernel_rfl) Tryd.func3 (by kernel_rfl)
    (of_decide_eq_true (by kernel_rfl)) (by unfold Func.isWrapper; first | (rw [if_pos (by decide +kernel)]; kernel_rfl) | (rw [if_neg (by decide +kernel)]; exact ⟨rfl, rfl⟩))
    (fun os started H enc _ => lifted os started H enc)

theorem proved : Rows.RouteTellsCardSaid :=
  Claim7.holds_tied_plain_at .later [] _ true _ _
    over (fun _ h => by cases h) (by kernel_rfl) (fun _ h => by cases h) routeTells_row_tie rfl ⟨rfl, rfl⟩ (by kernel_rfl) rfl
    (fun f fn hf hfn => by
      obtain rfl : f = 3 := Option.some.inj ((show Tryd.prog.funcNamed "roadbook/roadbooklaw21.RouteTells" = some 3 by kernel_rfl).symm.trans hf) |>.symm
      obtain rfl : fn = Tryd.f3 := (Option.some.inj (Tryd.func3.symm.trans hfn)).symm
      exact ⟨by kernel_rfl, fun j t ht => by
        rw [Tryd.params3] at ht
        have hm : t ∈ [27] := by simpa using Array.mem_of_getElem? ht
        have hall : ([27].all fun u => !Tryd.prog.wantsStandIn u) = true := by kernel_rfl
        exact (show Tryd.prog.wantsStandIn t = false by simpa using List.all_eq_true.1 hall t hm)⟩)
    (by kernel_rfl)
#print axioms proved
end Go.Proofs.YtkhdllhlhpkekaaDoor.routeTells
