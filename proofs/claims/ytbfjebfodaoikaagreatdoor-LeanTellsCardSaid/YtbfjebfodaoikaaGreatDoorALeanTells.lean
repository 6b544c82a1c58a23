/-
  The statement LeanTells, of anything known and any message. Condition: the listed variables have what the program's text lays them with (the tied card).
-/
import Derived.Test.YtbfjebfodaoikaaGreatDoorA11
import Derived.Test.YtbfjebfodaoikaaGreatDoorA35
import Derived.Test.YtbfjebfodaoikaaGreatDoorA36
import Derived.Test.YtbfjebfodaoikaaGreatDoorA43
import Derived.Test.YtbfjebfodaoikaaGreatDoorA44
import Derived.Test.YtbfjebfodaoikaaGreatDoorCards
import Derived.Test.YtbfjebfodaoikaaGreatDoorTie
import Derived.Lay
import Derived.SevenTiedAt
import Derived.Stop.Joined
namespace Go.Proofs.YtbfjebfodaoikaaGreatDoor.leanTells
open Go.ChangeShapes Go.WideShapes Go.ChangeAt Go.RowKit
open Go.ChangeMaps (open_string shut_string)
open Go.Proofs.YtbfjebfodaoikaaGreatDoor.Ms
open Go.Proofs.YtbfjebfodaoikaaGreatDoor.Box
open Go.Proofs.YtbfjebfodaoikaaGreatDoor.J1
open Go.Proofs.YtbfjebfodaoikaaGreatDoor.An
open Go.Proofs.YtbfjebfodaoikaaGreatDoor.Tc
open Go.Proofs.YtbfjebfodaoikaaGreatDoor.K1
open Go.Proofs.YtbfjebfodaoikaaGreatDoor.Kb
open Go.Proofs.YtbfjebfodaoikaaGreatDoor.Hs
open Go.Proofs.YtbfjebfodaoikaaGreatDoor.Open
set_option linter.unusedVariables false

open Go.Proofs.YtbfjebfodaoikaaGreatDoor.Nu (text_eq ext_list)
open Go.Proofs.YtbfjebfodaoikaaGreatDoor.Or (st_yes)
open Go.Proofs.YtbfjebfodaoikaaGreatDoor.Hy (H.one H.two wp_valW)
open Go.Proofs.YtbfjebfodaoikaaGreatDoor.Bk (Bk wpList_builtK run_loadK alloc_size loadVarK)
open Go.Proofs.YtbfjebfodaoikaaGreatDoor.F1 (T encT placed outT bt bt_nn bt_lt)
open Go.Proofs.YtbfjebfodaoikaaGreatDoor.F2 (idx sl_l)
open Go.Proofs.YtbfjebfodaoikaaGreatDoor.L1
open Go.Proofs.YtbfjebfodaoikaaGreatDoor.L2
open Go.Proofs.YtbfjebfodaoikaaGreatDoor.Cx
open Go.Proofs.YtbfjebfodaoikaaGreatDoor.Lc
/-- The law's boxes, and two of what is known. -/
structure Dv (w : World) (c : Kx) (m : M) (g1 g2 : Nat) (cf : Kx) (W : World) : Prop where
  v : Vs w c m W
  d1 : Bk 25 W g1 cf.cells
  d2 : Bk 25 W g2 cf.cells
theorem Dv.call {w V W : World} {c cf : Kx} {m : M} {g1 g2 : Nat} (h : Dv w c m g1 g2 cf V) (hb : Below V.heap.size V W) : Dv w c m g1 g2 cf W := ⟨h.v.call hb, h.d1.below hb, h.d2.below hb⟩
theorem heldD {P : Program} {f : Nat} {args : Array Value} {v : Ending} {w W : World} {c cf : Kx} {m : M} {g1 g2 : Nat} (h : Calls P f args W fun e w' => e = v ∧ Below W.heap.size W w') (hS : Dv w c m g1 g2 cf W) : Calls P f args W fun e w' => e = v ∧ Dv w c m g1 g2 cf w' :=
  h.mono fun _ _ ⟨he, hb⟩ => ⟨he, hS.call hb⟩

set_option maxHeartbeats 51200000 in
set_option maxRecDepth 100000 in
theorem walk (c : Kx) (m : M) (w : World) (hf : Fit c) (hd : DRow w m.la m.ll) (hs : SRow w m.sa m.sl) (hp : m.pfx.size ≤ maxLen) (ht : Tab w) :
    Calls Tryz.prog 3 #[.agg c.cells, .agg m.cells] w fun r w' => r = .returned (.bool true) ∧ Below w.heap.size w w' := by
  have hid : c.id.size ≤ maxLen := hf.2.2.2.2.2.2
  unfold maxLen at hid
  have HT := Lib.hid ht
  have h1 := ht.pos
  have D := Lib.hid (Vs.start w c m hd hs)
  have PA := Lib.hid (fun V (y : Tab V) => La.awake_any V y)
  clear ht hf hd hs
  go_enter Tryz.func3, Tryz.ntmps3
  go_upto_region 1 with fail
  change Code.wp _ _ _ _ ((w.alloc (.cells c.cells 25)).alloc (.cells m.cells 29))
  generalize (w.alloc (.cells c.cells 25)).alloc (.cells m.cells 29) = V at *
  have PF := Lib.hid (Few.few_any m V D.out.d D.out.s)
  have PO := Lib.hid (fun V => Ko.rok_any c V)
  have ci := D.out.s0.cell 6 (.string c.id) rfl
  by_cases hf : Few.fewB m = true
  rotate_left
  · have hf : Few.fewB m = false := by simpa using hf
    rw [hf] at PF
    clear hf
    go_wp2_with (first | (refine wpList_loadM (b := w.heap.size + 1) (m := m) rfl _ rfl rfl D.out.m0 ?_))
    refine PF.out.mono ?_
    rintro r w1 ⟨rfl, hb⟩
    have D := Lib.hid (D.out.call hb)
    clear hb PF ci
    have ci := D.out.s0.cell 6 (.string c.id) rfl
    go_wp2_with fail
    refine (PA.out _ (HT.out.below D.out.bel)).mono ?_
    rintro r w9 ⟨rfl, hb⟩
    have HB := Lib.hid (bcall D.out.bel hb)
    clear hb
    go_wp2
    go_ret
    exact ⟨rfl, HB.out⟩
  have hfew := few_parts hf
  rw [hf] at PF
  have HIN := Lib.hid (fun W (h : Vs w c m W) => few_in hf h.d h.s)
  by_cases h100 : 100 < c.id.size
  · have h100' : 100 < (c.id.size : Int) := by omega
    clear HIN hfew hf
    go_wp2_with (first | (refine wpList_loadM (b := w.heap.size + 1) (m := m) rfl _ rfl rfl D.out.m0 ?_))
    refine PF.out.mono ?_
    rintro r w1 ⟨rfl, hb⟩
    have D := Lib.hid (D.out.call hb)
    clear hb PF ci
    have ci := D.out.s0.cell 6 (.string c.id) rfl
    go_wp2_with fail
    refine (PA.out _ (HT.out.below D.out.bel)).mono ?_
    rintro r w9 ⟨rfl, hb⟩
    have HB := Lib.hid (bcall D.out.bel hb)
    clear hb
    go_wp2
    go_ret
    exact ⟨rfl, HB.out⟩
  have h100' : ¬ 100 < (c.id.size : Int) := by omega
  have d100 : decide (100 < (c.id.size : Int)) = false := decide_eq_false h100'
  cases hc : okC c
  · rw [hc] at PO
    clear HIN hfew hf hc
    go_wp2_with (first | (refine wpList_loadM (b := w.heap.size + 1) (m := m) rfl _ rfl rfl D.out.m0 ?_))
    refine PF.out.mono ?_
    rintro r w1 ⟨rfl, hb⟩
    have D := Lib.hid (D.out.call hb)
    clear hb PF ci
    have ci := D.out.s0.cell 6 (.string c.id) rfl
    go_wp2_with (first | (refine st_yes (v := .agg c.cells) (by rfl) rfl (run_loadK shX (x := .tmp 2) rfl rfl D.out.s0 rfl) ?_))
    refine (PO.out _).mono ?_
    rintro r w2 ⟨rfl, hb⟩
    have D := Lib.hid (D.out.call hb)
    clear hb PO ci
    go_wp2_with fail
    refine (PA.out _ (HT.out.below D.out.bel)).mono ?_
    rintro r w9 ⟨rfl, hb⟩
    have HB := Lib.hid (bcall D.out.bel hb)
    clear hb
    go_wp2
    go_ret
    exact ⟨rfl, HB.out⟩
  rw [hc] at PO
  obtain ⟨s, cf, er, hq⟩ : ∃ a b d, putL c m = (a, b, d) := ⟨_, _, _, rfl⟩
  obtain ⟨ps, pq, hpl⟩ : ∃ a b, plainL m = (a, b) := ⟨_, _, rfl⟩
  have ln : m.sl.length ≤ 2000 := by have := hfew.2.1; omega
  have PP := fun V (y : m.In V) (z : Tab V) => Lv.put_any c m V y ln hfew.2.2 hp hc z
  have PR := fun V (y : m.In V) => L9.rput_any c m V y ln hfew.2.2 hp hc
  have PL := fun V (y : m.In V) (z : Tab V) => Lp.plain_any m V y ln hfew.2.2 hp z
  have RL := fun V (y : m.In V) => Lp.rplain_any m V y ln hfew.2.2 hp
  rw [hq] at PP PR
  rw [hpl] at PL RL
  have PP := Lib.hid (show ∀ V, m.In V → Tab V → Calls Tryz.prog 7 #[.agg c.cells, .agg m.cells] V fun e w' => e = .returned (.tuple #[.string s, .agg cf.cells, .int .i64 er]) ∧ Below V.heap.size V w' from PP)
  have PR := Lib.hid (show ∀ V, m.In V → Calls Tryz.prog 8 #[.agg c.cells, .agg m.cells] V fun e w' => e = .returned (.tuple #[.string s, .agg cf.cells, .int .i64 er]) ∧ Below V.heap.size V w' from PR)
  have PL := Lib.hid (show ∀ V, m.In V → Tab V → Calls Tryz.prog 9 #[.agg m.cells] V fun e w' => e = .returned (.tuple #[.string ps, .bool pq]) ∧ Below V.heap.size V w' from PL)
  have RL := Lib.hid (show ∀ V, m.In V → Calls Tryz.prog 10 #[.agg m.cells] V fun e w' => e = .returned (.tuple #[.string ps, .bool pq]) ∧ Below V.heap.size V w' from RL)
  have RP := Lib.hid (fun V (y : m.In V) (z : Tab V) => L5.right_any m V y hfew.2.2 hp z)
  have RR := Lib.hid (fun V (y : m.In V) => L8.rright_any m V y hfew.2.2 hp)
  clear hf hfew hp hc hq hpl ln
  generalize okL m = y at *
  go_wp2_with (first | (refine wpList_loadM (b := w.heap.size + 1) (m := m) rfl _ rfl rfl D.out.m0 ?_))
  refine PF.out.mono ?_
  rintro r w1 ⟨rfl, hb⟩
  have D := Lib.hid (D.out.call hb)
  clear hb PF ci
  have ci := D.out.s0.cell 6 (.string c.id) rfl
  go_wp2_with (first | (refine st_yes (v := .agg c.cells) (by rfl) rfl (run_loadK shX (x := .tmp 2) rfl rfl D.out.s0 rfl) ?_))
  refine (PO.out _).mono ?_
  rintro r w2 ⟨rfl, hb⟩
  have D := Lib.hid (D.out.call hb)
  clear hb PO ci
  go_wp2_with (first | (refine wpList_loadX (b := w.heap.size) (m := c) rfl _ rfl rfl D.out.s0 ?_) | (refine wpList_loadM (b := w.heap.size + 1) (m := m) rfl _ rfl rfl D.out.m0 ?_))
  refine (PP.out _ (HIN.out _ D.out) (HT.out.below D.out.bel)).mono ?_
  rintro r w3 ⟨rfl, hb⟩
  have D := Lib.hid (D.out.call hb)
  clear hb PP
  go_upto_region 4 with (refine wpList_storeX (b := w3.heap.size) (m := Kx.zero) (m' := cf) rfl _ _ rfl rfl rfl (Bk.Bk.new 25 w3 Kx.zero.cells) ?_)
  change Code.wp _ _ _ _ ((w3.alloc (.cells Kx.zero.cells 25)).setRow w3.heap.size (Kx.cells cf))
  rw [World.setRow_alloc_new]
  have bel := balloc (Below.refl w3.heap.size w3) (.cells (Kx.cells cf) 25)
  have D := Lib.hid (D.out.call bel)
  have S1 := Lib.hid (Bk.Bk.new 25 w3 (Kx.cells cf))
  clear bel
  generalize w3.alloc (.cells (Kx.cells cf) 25) = V4 at *
  generalize w3.heap.size = g1 at *
  go_wp2_with (first | (refine wpList_loadX (b := w.heap.size) (m := c) rfl _ rfl rfl D.out.s0 ?_) | (refine wpList_loadM (b := w.heap.size + 1) (m := m) rfl _ rfl rfl D.out.m0 ?_))
  refine (PR.out _ (HIN.out _ D.out)).mono ?_
  rintro r w3 ⟨rfl, hb⟩
  have D := Lib.hid (D.out.call hb)
  have S1 := Lib.hid (S1.out.below hb)
  clear hb
  go_upto_region 5 with (refine wpList_storeX (b := w3.heap.size) (m := Kx.zero) (m' := cf) rfl _ _ rfl rfl rfl (Bk.Bk.new 25 w3 Kx.zero.cells) ?_)
  change Code.wp _ _ _ _ ((w3.alloc (.cells Kx.zero.cells 25)).setRow w3.heap.size (Kx.cells cf))
  rw [World.setRow_alloc_new]
  have bel := balloc (Below.refl w3.heap.size w3) (.cells (Kx.cells cf) 25)
  have D := Lib.hid (D.out.call bel)
  have S1 := Lib.hid (S1.out.below bel)
  have S2 := Lib.hid (Bk.Bk.new 25 w3 (Kx.cells cf))
  clear bel
  generalize w3.alloc (.cells (Kx.cells cf) 25) = V4 at *
  generalize w3.heap.size = g2 at *
  go_wp2_with (first | (refine wpList_loadM (b := w.heap.size + 1) (m := m) rfl _ rfl rfl D.out.m0 ?_))
  refine (PL.out _ (HIN.out _ D.out) (HT.out.below D.out.bel)).mono ?_
  rintro r w5 ⟨rfl, hb⟩
  have D := Lib.hid (D.out.call hb)
  have S1 := Lib.hid (S1.out.below hb)
  have S2 := Lib.hid (S2.out.below hb)
  clear hb
  go_wp2_with (first | (refine wpList_loadM (b := w.heap.size + 1) (m := m) rfl _ rfl rfl D.out.m0 ?_))
  refine (RL.out _ (HIN.out _ D.out)).mono ?_
  rintro r w5 ⟨rfl, hb⟩
  have D := Lib.hid (D.out.call hb)
  have S1 := Lib.hid (S1.out.below hb)
  have S2 := Lib.hid (S2.out.below hb)
  clear hb
  have q1 := K9.bool_same y
  have q2 := La.bytes_same s
  have q3 := K9.int_same er
  have q4 := La.bytes_same ps
  have q5 := K9.bool_same pq
  go_upto_region 7 with fail
  refine wp_region_held_drew (S := fun W => Dv w c m g1 g2 cf W) (by kernel_rfl) ⟨D.out.drew, S1.out, S2.out⟩ (fun hS => ?_)
  clear D S1 S2
  generalize w5.drew = Z0 at *
  refine wpAnyH_ready (rs := [0]) (by kernel_rfl) (by simp) ?_
  refine AllReadyH.cons rfl (fun K hK => ?_) AllReadyH.nil
  go_simp
  refine (heldD (PA.out _ (HT.out.below hS.v.bel)) hS).mono ?_
  rintro e w0 ⟨rfl, hS0⟩
  refine hK.out _ _ hS0 (fun _ => ?_)
  clear hK K hS
  have hS := hS0
  clear hS0
  try simp only [Act.put, List.setIfInBounds_toArray, List.set_cons_zero, List.set_cons_succ]
  refine H.tk (i := 1) (v := (.bool true)) (fun w _ => rfl) hS ?_
  try simp only [Act.put, List.setIfInBounds_toArray, List.set_cons_zero, List.set_cons_succ]
  refine H.tk (i := 2) (v := .agg (M.cells m)) ?h2 hS ?_
  case h2 => exact (fun w hw => run_loadM (x := .tmp 3) rfl rfl hw.v.m0)
  try simp only [Act.put, List.setIfInBounds_toArray, List.set_cons_zero, List.set_cons_succ]
  refine H.tk (i := 4) (v := .agg (M.cells m)) ?h4 hS ?_
  case h4 => exact (fun w hw => run_loadM (x := .tmp 3) rfl rfl hw.v.m0)
  try simp only [Act.put, List.setIfInBounds_toArray, List.set_cons_zero, List.set_cons_succ]
  refine wpAnyH_ready (rs := [3]) (by kernel_rfl) (by simp) ?_
  refine AllReadyH.cons rfl (fun K hK => ?_) AllReadyH.nil
  go_simp
  refine (heldD (RP.out _ (HIN.out _ hS.v) (HT.out.below hS.v.bel)) hS).mono ?_
  rintro e w3 ⟨rfl, hS3⟩
  refine hK.out _ _ hS3 (fun _ => ?_)
  clear hK K hS
  have hS := hS3
  clear hS3
  try simp only [Act.put, List.setIfInBounds_toArray, List.set_cons_zero, List.set_cons_succ]
  refine wpAnyH_ready (rs := [5]) (by kernel_rfl) (by simp) ?_
  refine AllReadyH.cons rfl (fun K hK => ?_) AllReadyH.nil
  go_simp
  refine (heldD (RR.out _ (HIN.out _ hS.v)) hS).mono ?_
  rintro e w5 ⟨rfl, hS5⟩
  refine hK.out _ _ hS5 (fun _ => ?_)
  clear hK K hS
  have hS := hS5
  clear hS5
  try simp only [Act.put, List.setIfInBounds_toArray, List.set_cons_zero, List.set_cons_succ]
  refine H.tk (i := 6) (v := .bool true) ?h6 hS ?_
  case h6 => exact (fun w hw => by go_simp)
  try simp only [Act.put, List.setIfInBounds_toArray, List.set_cons_zero, List.set_cons_succ]
  refine H.tk (i := 7) (v := (.bool true)) (fun w _ => rfl) hS ?_
  try simp only [Act.put, List.setIfInBounds_toArray, List.set_cons_zero, List.set_cons_succ]
  refine H.tk (i := 8) (v := (.bool true)) (fun w _ => rfl) hS ?_
  try simp only [Act.put, List.setIfInBounds_toArray, List.set_cons_zero, List.set_cons_succ]
  refine H.tk (i := 9) (v := ?v9) ?h9 hS ?_
  case h9 => (intro w hw; go_simp; first | done | (with_reducible rfl))
  try simp only [Act.put, List.setIfInBounds_toArray, List.set_cons_zero, List.set_cons_succ]
  refine H.tk (i := 10) (v := ?v10) ?h10 hS ?_
  case h10 => (intro w hw; go_simp; first | done | (with_reducible rfl))
  try simp only [Act.put, List.setIfInBounds_toArray, List.set_cons_zero, List.set_cons_succ]
  refine H.tk (i := 11) (v := .bool true) ?h11 hS ?_
  case h11 => exact (fun w hw => by go_simp)
  try simp only [Act.put, List.setIfInBounds_toArray, List.set_cons_zero, List.set_cons_succ]
  refine H.tk (i := 12) (v := (.bool true)) (fun w _ => rfl) hS ?_
  try simp only [Act.put, List.setIfInBounds_toArray, List.set_cons_zero, List.set_cons_succ]
  refine H.tk (i := 13) (v := (.bool true)) (fun w _ => rfl) hS ?_
  try simp only [Act.put, List.setIfInBounds_toArray, List.set_cons_zero, List.set_cons_succ]
  refine H.tk (i := 14) (v := .agg (Kx.cells cf)) ?h14 hS ?_
  case h14 => exact (fun w hw => run_loadK shX (x := .tmp 6) rfl rfl hw.d1 rfl)
  try simp only [Act.put, List.setIfInBounds_toArray, List.set_cons_zero, List.set_cons_succ]
  refine H.tk (i := 15) (v := .agg (Kx.cells cf)) ?h15 hS ?_
  case h15 => exact (fun w hw => run_loadK shX (x := .tmp 9) rfl rfl hw.d2 rfl)
  try simp only [Act.put, List.setIfInBounds_toArray, List.set_cons_zero, List.set_cons_succ]
  refine H.tk (i := 16) (v := .bool true) ?h16 hS ?_
  case h16 => exact (fun w hw => ex_eqX rfl rfl rfl)
  try simp only [Act.put, List.setIfInBounds_toArray, List.set_cons_zero, List.set_cons_succ]
  refine H.tk (i := 17) (v := (.bool true)) (fun w _ => rfl) hS ?_
  try simp only [Act.put, List.setIfInBounds_toArray, List.set_cons_zero, List.set_cons_succ]
  refine H.tk (i := 18) (v := (.bool true)) (fun w _ => rfl) hS ?_
  try simp only [Act.put, List.setIfInBounds_toArray, List.set_cons_zero, List.set_cons_succ]
  refine H.tk (i := 19) (v := ?v19) ?h19 hS ?_
  case h19 => (intro w hw; go_simp; first | done | (with_reducible rfl))
  try simp only [Act.put, List.setIfInBounds_toArray, List.set_cons_zero, List.set_cons_succ]
  refine H.tk (i := 20) (v := ?v20) ?h20 hS ?_
  case h20 => (intro w hw; go_simp; first | done | (with_reducible rfl))
  try simp only [Act.put, List.setIfInBounds_toArray, List.set_cons_zero, List.set_cons_succ]
  refine H.tk (i := 21) (v := .bool true) ?h21 hS ?_
  case h21 => exact (fun w hw => by go_simp)
  try simp only [Act.put, List.setIfInBounds_toArray, List.set_cons_zero, List.set_cons_succ]
  refine H.tk (i := 22) (v := (.bool true)) (fun w _ => rfl) hS ?_
  try simp only [Act.put, List.setIfInBounds_toArray, List.set_cons_zero, List.set_cons_succ]
  refine H.tk (i := 23) (v := (.bool true)) (fun w _ => rfl) hS ?_
  try simp only [Act.put, List.setIfInBounds_toArray, List.set_cons_zero, List.set_cons_succ]
  refine H.tk (i := 24) (v := ?v24) ?h24 hS ?_
  case h24 => (intro w hw; go_simp; first | done | (with_reducible rfl))
  try simp only [Act.put, List.setIfInBounds_toArray, List.set_cons_zero, List.set_cons_succ]
  refine H.tk (i := 25) (v := ?v25) ?h25 hS ?_
  case h25 => (intro w hw; go_simp; first | done | (with_reducible rfl))
  try simp only [Act.put, List.setIfInBounds_toArray, List.set_cons_zero, List.set_cons_succ]
  refine H.tk (i := 26) (v := .bool true) ?h26 hS ?_
  case h26 => exact (fun w hw => by go_simp)
  try simp only [Act.put, List.setIfInBounds_toArray, List.set_cons_zero, List.set_cons_succ]
  refine H.tk (i := 27) (v := (.bool true)) (fun w _ => rfl) hS ?_
  try simp only [Act.put, List.setIfInBounds_toArray, List.set_cons_zero, List.set_cons_succ]
  refine H.tk (i := 28) (v := (.bool true)) (fun w _ => rfl) hS ?_
  try simp only [Act.put, List.setIfInBounds_toArray, List.set_cons_zero, List.set_cons_succ]
  refine H.tk (i := 29) (v := ?v29) ?h29 hS ?_
  case h29 => (intro w hw; go_simp; first | done | (with_reducible rfl))
  try simp only [Act.put, List.setIfInBounds_toArray, List.set_cons_zero, List.set_cons_succ]
  refine H.tk (i := 30) (v := ?v30) ?h30 hS ?_
  case h30 => (intro w hw; go_simp; first | done | (with_reducible rfl))
  try simp only [Act.put, List.setIfInBounds_toArray, List.set_cons_zero, List.set_cons_succ]
  refine H.tk (i := 31) (v := .bool true) ?h31 hS ?_
  case h31 => exact (fun w hw => by go_simp)
  try simp only [Act.put, List.setIfInBounds_toArray, List.set_cons_zero, List.set_cons_succ]
  refine H.tk (i := 32) (v := (.bool true)) (fun w _ => rfl) hS ?_
  try simp only [Act.put, List.setIfInBounds_toArray, List.set_cons_zero, List.set_cons_succ]
  refine H.tk (i := 33) (v := (.bool true)) (fun w _ => rfl) hS ?_
  try simp only [Act.put, List.setIfInBounds_toArray, List.set_cons_zero, List.set_cons_succ]
  refine wpAnyH_done (by kernel_rfl) ?_ _
  go_wp2
  go_ret
  exact ⟨rfl, hS.v.bel⟩

theorem own : ownKnob Tryz.prog.godebug = none := by kernel_rfl

set_option maxRecDepth 100000 in
theorem lifted (os : Os) (started : os.Started) (H : Type) (enc : TypeId × Value → H) :
    ReturnsInHanded {} Tryz.checked os 3 .any (fun w args => (Rows.leanTellsSpec.pre enc Tryz.prog Tryz.f3 Rows.leanTellsRow.domain false w args ∧ laidMetH Tryz.prog Rows.leanTellsRow.laid w) ∧ sizedMet enc Tryz.prog Tryz.f3 (OpenSpec.ofChange Rows.leanTellsSpec) false w args)
      (Rows.leanTellsSpec.post enc Tryz.prog Tryz.f3 false true false false) := by
  refine returnsInHanded_of_change_and (C := Tryz.checked) (X := fun w _ => laidMetH Tryz.prog Rows.leanTellsRow.laid w) (fun _ _ _ hh h => h.of_heap hh) own started (by kernel_rfl) Tryz.func3
    (ChangeSpec.witness_shaped (enc := enc) (C := Tryz.checked) (os := os) (X := fun w _ => laidMetH Tryz.prog Rows.leanTellsRow.laid w) false (World.laidAll Tryz.prog os Rows.leanTellsRow.laid) #[.agg Kx.zero.cells, .agg M.zero.cells] 8 (World.laidAll_os _ _ _)
      (World.shaped_of_ZipB (by kernel_rfl) (by kernel_rfl)) (by kernel_rfl) (by kernel_rfl) (by kernel_rfl)
      (by rw [MakeChecks.laidMetH_plain _ _ _ (by kernel_rfl)]; exact laidMet_laidAll _ (by kernel_rfl) (by kernel_rfl))) ?_
  intro W base args ds gs before hval0 hW _ _ hL0 _
  have hMet := of_laid hL0
  have hval : ∀ (j : Nat) t v, Tryz.f3.params[j]? = some t → args[j]? = some v → Value.okWide Tryz.prog W .any base t v := hval0
  have hW' := hW
  have hlt := fun x hx => hW'.lt x hx
  obtain ⟨p, q, hA0, hV, rfl, hfz, hnd⟩ := hW
  have hA : DataW.TrodAll enc Tryz.prog W 0 (fun _ => true) true Tryz.f3.params.toList args.toList ds p := hA0
  rw [Tryz.params3] at hA hval
  obtain ⟨v0, vs0, d0, ds0, p0, q0, hargs, rfl, rfl, h0, r0⟩ := trodAll_cons hA
  obtain ⟨v1, vs1, d1, ds1, p1, q1, rfl, rfl, rfl, h1, r1⟩ := trodAll_cons r0
  obtain ⟨rfl, rfl, rfl⟩ := trodAll_nil r1
  obtain rfl : args = #[v0, v1] := by cases args; simp_all
  obtain ⟨rfl, rfl⟩ := trodVars_none hV
  obtain ⟨c, rfl, hf⟩ := by_ctx (hval 0 25 v0 rfl rfl) h0
  obtain ⟨m, rfl, hd, hs, hp⟩ := by_valueP (hval 1 29 v1 rfl rfl) h1
  clear hA0 hval0
  simp only [List.append_nil] at hW' hlt
  refine (walk c m W hf hd hs hp hMet).mono fun e W' ⟨he, hg⟩ => ?_
  subst he
  exact ⟨_, rfl, _, _, _, [], _, [], hW', trodAll_mk1 (shut_bool Tryz.underlying4 _), (trodAll_cons_mk (again (by kernel_rfl) (of_decide_eq_true (by kernel_rfl)) h0 hg fun x hx => hlt x (by first | exact absurd hx (by simp) | simp [hx])) (trodAll_cons_mk (again (by kernel_rfl) (of_decide_eq_true (by kernel_rfl)) h1 hg fun x hx => hlt x (by first | exact absurd hx (by simp) | simp [hx])) trodAll_mk0)), rfl, hg.frame _, fun h => by cases h⟩

theorem over : Rows.LeanTellsSaid :=
  OpenClaim.holds_of_wide 3 Tryz.f3 rfl rfl rfl rfl rfl rfl rfl ⟨rfl, rfl, rfl, rfl, rfl⟩ rfl rfl rfl rfl rfl (by kernel_rfl) Tryz.func3 (by kernel_rfl)
    (of_decide_eq_true (by kernel_rfl)) (by unfold Func.isWrapper; first | (rw [if_pos (by decide +kernel)]; kernel_rfl) | (rw [if_neg (by decide +kernel)]; exact ⟨rfl, rfl⟩))
    (fun os started H enc _ => lifted os started H enc)

theorem proved : Rows.LeanTellsCardSaid :=
  Claim7.holds_tied_plain_at .later [] _ true _ _
    over (fun _ h => by cases h) (by kernel_rfl) (fun _ h => by cases h) leanTells_row_tie rfl ⟨rfl, rfl⟩ (by kernel_rfl) rfl
    (fun f fn hf hfn => by
      obtain rfl : f = 3 := Option.some.inj ((show Tryz.prog.funcNamed "roadbook/roadbooklaw24.LeanTells" = some 3 by kernel_rfl).symm.trans hf) |>.symm
      obtain rfl : fn = Tryz.f3 := (Option.some.inj (Tryz.func3.symm.trans hfn)).symm
      exact ⟨by kernel_rfl, fun j t ht => by
        rw [Tryz.params3] at ht
        have hm : t ∈ [25, 29] := by simpa using Array.mem_of_getElem? ht
        have hall : ([25, 29].all fun u => !Tryz.prog.wantsStandIn u) = true := by kernel_rfl
        exact (show Tryz.prog.wantsStandIn t = false by simpa using List.all_eq_true.1 hall t hm)⟩)
    (by kernel_rfl)
#print axioms proved
end Go.Proofs.YtbfjebfodaoikaaGreatDoor.leanTells
