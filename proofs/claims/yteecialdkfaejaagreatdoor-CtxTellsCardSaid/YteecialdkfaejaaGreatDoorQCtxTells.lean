/-
  The statement CtxTells, of any thing known, any TLV and any message. Condition: the listed variables have what the program's text lays them with (the tied card).
-/
import Derived.Test.YteecialdkfaejaaGreatDoorQ05
import Derived.Test.YteecialdkfaejaaGreatDoorQ15
import Derived.Test.YteecialdkfaejaaGreatDoorCards
import Derived.Test.YteecialdkfaejaaGreatDoorTie
import Derived.Lay
import Derived.SevenTiedAt
import Derived.Stop.Joined
namespace Go.Proofs.YteecialdkfaejaaGreatDoor.ctxTells
open Go.ChangeShapes Go.WideShapes Go.ChangeAt Go.RowKit
open Go.ChangeMaps (open_string shut_string)
open Go.Proofs.YteecialdkfaejaaGreatDoor.Ms
open Go.Proofs.YteecialdkfaejaaGreatDoor.Box
open Go.Proofs.YteecialdkfaejaaGreatDoor.All
open Go.Proofs.YteecialdkfaejaaGreatDoor.J1
open Go.Proofs.YteecialdkfaejaaGreatDoor.An
open Go.Proofs.YteecialdkfaejaaGreatDoor.Tc
open Go.Proofs.YteecialdkfaejaaGreatDoor.K1
open Go.Proofs.YteecialdkfaejaaGreatDoor.Kb
open Go.Proofs.YteecialdkfaejaaGreatDoor.K2
open Go.Proofs.YteecialdkfaejaaGreatDoor.K9
open Go.Proofs.YteecialdkfaejaaGreatDoor.Hs
open Go.Proofs.YteecialdkfaejaaGreatDoor.Open
set_option linter.unusedVariables false

open Go.Proofs.YteecialdkfaejaaGreatDoor.Nu (text_eq ext_list)
open Go.Proofs.YteecialdkfaejaaGreatDoor.J2 (nil_eq nil_em)
open Go.Proofs.YteecialdkfaejaaGreatDoor.Tl (cellsT TRow)
open Go.Proofs.YteecialdkfaejaaGreatDoor.Or (st_yes)
open Go.Proofs.YteecialdkfaejaaGreatDoor.Hx (ex_built)
open Go.Proofs.YteecialdkfaejaaGreatDoor.Hy (H.one H.two wp_valW)
open Go.Proofs.YteecialdkfaejaaGreatDoor.Bk (Bk wpList_builtK run_loadK alloc_size)
open Go.Proofs.YteecialdkfaejaaGreatDoor.F1 (bt bt_nn bt_lt)
open Go.Proofs.YteecialdkfaejaaGreatDoor.F2 (idx sl_m sl_l)
open Go.Proofs.YteecialdkfaejaaGreatDoor.K8 (sl_h)
open Go.Proofs.YteecialdkfaejaaGreatDoor.K6 (infoX)
/-- What the law's three boxes hold, behind where the call began. -/
structure Ts (w : World) (c : Kx) (x : F1.T) (m : M) (W : World) : Prop where
  s0 : Bk 25 W w.heap.size c.cells
  t0 : Bk 27 W (w.heap.size + 1) (cellsT x)
  m0 : Bx W (w.heap.size + 1 + 1) m
  d : DRow W m.la m.ll
  s : SRow W m.sa m.sl
  bel : Below w.heap.size w W
theorem Ts.call {w V W : World} {c : Kx} {x : F1.T} {m : M} (h : Ts w c x m V) (hb : Below V.heap.size V W) : Ts w c x m W := ⟨h.s0.below hb, h.t0.below hb, h.m0.below hb, h.d.below hb, h.s.below hb, bcall h.bel hb⟩
theorem Ts.start (w : World) (c : Kx) (x : F1.T) (m : M) (hd : DRow w m.la m.ll) (hs : SRow w m.sa m.sl) : Ts w c x m (((w.alloc (.cells c.cells 25)).alloc (.cells (cellsT x) 27)).alloc (.cells m.cells 31)) := by
  have hb := balloc (balloc (balloc (Below.refl _ w) (.cells c.cells 25)) (.cells (cellsT x) 27)) (.cells m.cells 31)
  refine ⟨((Bk.Bk.new 25 w c.cells).old _).old _, ?_, ?_, hd.below hb, hs.below hb, hb⟩
  · have := Bk.Bk.new 27 (w.alloc (.cells c.cells 25)) (cellsT x)
    rw [alloc_size] at this
    exact this.old _
  · have := Bx.new ((w.alloc (.cells c.cells 25)).alloc (.cells (cellsT x) 27)) m
    rw [alloc_size, alloc_size] at this
    exact this
theorem heldT {P : Program} {f : Nat} {args : Array Value} {v : Ending} {w W : World} {c : Kx} {x : F1.T} {m : M} (h : Calls P f args W fun e w' => e = v ∧ Below W.heap.size W w') (hS : Ts w c x m W) : Calls P f args W fun e w' => e = v ∧ Ts w c x m w' :=
  h.mono fun _ _ ⟨he, hb⟩ => ⟨he, hS.call hb⟩
theorem heldQ {P : Program} {f : Nat} {args : Array Value} {v : Ending} {w W : World} {c : Kx} {x : F1.T} {m : M} (h : Calls P f args W fun e w' => e = v ∧ W = w') (hS : Ts w c x m W) : Calls P f args W fun e w' => e = v ∧ Ts w c x m w' :=
  h.mono fun _ _ ⟨he, hb⟩ => ⟨he, hb ▸ hS⟩

set_option maxHeartbeats 51200000 in
set_option maxRecDepth 100000 in
theorem walk (c : Kx) (a t : Int) (d : ByteArray) (m : M) (w : World) (hf : Fit c) (hz : d.size ≤ maxLen) (hd : DRow w m.la m.ll) (hs : SRow w m.sa m.sl) (hp : m.pfx.size ≤ maxLen) (ht : Tab w) :
    Calls Tryz.prog 3 #[.agg c.cells, .agg (cellsT (a, (d, t))), .agg m.cells] w fun r w' => r = .returned (.bool true) ∧ Below w.heap.size w w' := by
  unfold maxLen at hz
  have hid : c.id.size ≤ maxLen := hf.2.2.2.2.2.2
  unfold maxLen at hid
  have HT := Lib.hid ht
  have h1 := ht.pos
  have D := Lib.hid (Ts.start w c (a, (d, t)) m hd hs)
  clear ht hf hd hs
  go_enter Tryz.func3, Tryz.ntmps3
  go_upto_region 1 with fail
  change Code.wp _ _ _ _ (((w.alloc (.cells c.cells 25)).alloc (.cells (cellsT (a, (d, t))) 27)).alloc (.cells m.cells 31))
  generalize ((w.alloc (.cells c.cells 25)).alloc (.cells (cellsT (a, (d, t))) 27)).alloc (.cells m.cells 31) = V at *
  have PF := Lib.hid (Few.few_any m V D.out.d D.out.s)
  have cd := D.out.t0.cell 2 (.string d) rfl
  have ci := D.out.s0.cell 6 (.string c.id) rfl
  by_cases hf : Few.fewB m = true
  rotate_left
  · have hf : Few.fewB m = false := by simpa using hf
    rw [hf] at PF
    clear hf
    go_wp2_with (first | (refine wpList_loadM (b := w.heap.size + 1 + 1) (m := m) rfl _ rfl rfl D.out.m0 ?_))
    refine PF.out.mono ?_
    rintro r w1 ⟨rfl, hb⟩
    have D := Lib.hid (D.out.call hb)
    clear hb PF cd ci
    have cd := D.out.t0.cell 2 (.string d) rfl
    have ci := D.out.s0.cell 6 (.string c.id) rfl
    go_wp2_with fail
    refine (awake_any _ (HT.out.below D.out.bel)).mono ?_
    rintro r w2 ⟨rfl, hb⟩
    have HB := Lib.hid (bcall D.out.bel hb)
    clear hb
    go_wp2
    go_ret
    exact ⟨rfl, HB.out⟩
  have hfew := few_parts hf
  rw [hf] at PF
  have hin : ∀ W, Ts w c (a, (d, t)) m W → m.In W := fun W h => few_in hf h.d h.s
  by_cases h300 : 300 < d.size
  · have h300' : 300 < (d.size : Int) := by omega
    clear hin hfew hf
    go_wp2_with (first | (refine wpList_loadM (b := w.heap.size + 1 + 1) (m := m) rfl _ rfl rfl D.out.m0 ?_))
    refine PF.out.mono ?_
    rintro r w1 ⟨rfl, hb⟩
    have D := Lib.hid (D.out.call hb)
    clear hb PF cd ci
    have cd := D.out.t0.cell 2 (.string d) rfl
    have ci := D.out.s0.cell 6 (.string c.id) rfl
    go_wp2_with fail
    refine (awake_any _ (HT.out.below D.out.bel)).mono ?_
    rintro r w2 ⟨rfl, hb⟩
    have HB := Lib.hid (bcall D.out.bel hb)
    clear hb
    go_wp2
    go_ret
    exact ⟨rfl, HB.out⟩
  have h300' : ¬ 300 < (d.size : Int) := by omega
  by_cases h100 : 100 < c.id.size
  · have h100' : 100 < (c.id.size : Int) := by omega
    clear hin hfew hf
    go_wp2_with (first | (refine wpList_loadM (b := w.heap.size + 1 + 1) (m := m) rfl _ rfl rfl D.out.m0 ?_))
    refine PF.out.mono ?_
    rintro r w1 ⟨rfl, hb⟩
    have D := Lib.hid (D.out.call hb)
    clear hb PF cd ci
    have cd := D.out.t0.cell 2 (.string d) rfl
    have ci := D.out.s0.cell 6 (.string c.id) rfl
    go_wp2_with fail
    refine (awake_any _ (HT.out.below D.out.bel)).mono ?_
    rintro r w2 ⟨rfl, hb⟩
    have HB := Lib.hid (bcall D.out.bel hb)
    clear hb
    go_wp2
    go_ret
    exact ⟨rfl, HB.out⟩
  have h100' : ¬ 100 < (c.id.size : Int) := by omega
  have HIN := Lib.hid hin
  have Q1 := Lib.hid (fun V => ok_any c V)
  have Q2 := Lib.hid (fun V => Ko.rok_any c V)
  have Q3 := Lib.hid (fun V (h : m.In V) (y : Tab V) => right_any m V h hfew.2.2 hp y)
  have Q4 := Lib.hid (fun V (h : m.In V) => Kr.rright_any m V h hfew.2.2 hp)
  have Q5 := Lib.hid (fun V => fam_any m.ae V)
  have Q6 := Lib.hid (fun V => rfam_any m.ae V)
  clear hin hfew hf hp
  go_wp2_with (first | (refine wpList_loadM (b := w.heap.size + 1 + 1) (m := m) rfl _ rfl rfl D.out.m0 ?_))
  refine PF.out.mono ?_
  rintro r w1 ⟨rfl, hb⟩
  have D := Lib.hid (D.out.call hb)
  clear hb PF cd ci
  have cd := D.out.t0.cell 2 (.string d) rfl
  have ci := D.out.s0.cell 6 (.string c.id) rfl
  go_upto_region 3 with fail
  clear cd ci h300' h100' h300 h100
  obtain ⟨y1, hy1⟩ : ∃ y, okC c = y := ⟨_, rfl⟩
  have HY1 := Lib.hid hy1
  rw [hy1] at Q1 Q2
  generalize okU m = y2 at *
  generalize fam m.ae = y3 at *
  have q1 := K9.bool_same y1
  have q1' : (y1 != y1) = false := by rw [bne, q1]; rfl
  have q2 := K9.bool_same y2
  have q2' : (y2 != y2) = false := by rw [bne, q2]; rfl
  have q3 := int_same y3
  have q3' : (y3 != y3) = false := by rw [bne, q3]; rfl
  clear hy1
  refine wp_region_held_drew (S := fun W => Ts w c (a, (d, t)) m W) (by kernel_rfl) (D.out.call (Below.refl _ w1).drew) (fun hS => ?_)
  clear D
  generalize w1.drew = X0 at *
  refine H.tk (i := 0) (v := .agg c.cells) ?h0 hS ?_
  case h0 => exact (fun _ hw => run_loadK shX (x := .tmp 3) rfl rfl hw.s0 rfl)
  try simp only [Act.put, List.setIfInBounds_toArray, List.set_cons_zero, List.set_cons_succ]
  refine H.tk (i := 2) (v := .agg c.cells) ?h2 hS ?_
  case h2 => exact (fun _ hw => run_loadK shX (x := .tmp 3) rfl rfl hw.s0 rfl)
  try simp only [Act.put, List.setIfInBounds_toArray, List.set_cons_zero, List.set_cons_succ]
  refine wpAnyH_ready (rs := [1]) (by kernel_rfl) (by simp) ?_
  refine AllReadyH.cons rfl (fun K hK => ?_) AllReadyH.nil
  go_simp
  refine (heldT (Q1.out _) hS).mono ?_
  rintro e w1 ⟨rfl, hS1⟩
  refine hK.out _ _ hS1 (fun _ => ?_)
  clear hK K hS
  have hS := hS1
  clear hS1
  try simp only [Act.put, List.setIfInBounds_toArray, List.set_cons_zero, List.set_cons_succ]
  refine wpAnyH_ready (rs := [3]) (by kernel_rfl) (by simp) ?_
  refine AllReadyH.cons rfl (fun K hK => ?_) AllReadyH.nil
  go_simp
  refine (heldT (Q2.out _) hS).mono ?_
  rintro e w3 ⟨rfl, hS3⟩
  refine hK.out _ _ hS3 (fun _ => ?_)
  clear hK K hS
  have hS := hS3
  clear hS3
  try simp only [Act.put, List.setIfInBounds_toArray, List.set_cons_zero, List.set_cons_succ]
  refine H.tk (i := 4) (v := .bool false) ?h4 hS ?_
  case h4 => exact (fun w hw => by go_simp)
  try simp only [Act.put, List.setIfInBounds_toArray, List.set_cons_zero, List.set_cons_succ]
  refine H.tk (i := 5) (v := (.bool false)) (fun w _ => rfl) hS ?_
  try simp only [Act.put, List.setIfInBounds_toArray, List.set_cons_zero, List.set_cons_succ]
  refine H.tk (i := 6) (v := .agg (M.cells m)) ?h6 hS ?_
  case h6 => exact (fun _ hw => run_loadM (x := .tmp 5) rfl rfl hw.m0)
  try simp only [Act.put, List.setIfInBounds_toArray, List.set_cons_zero, List.set_cons_succ]
  refine H.tk (i := 8) (v := .agg (M.cells m)) ?h8 hS ?_
  case h8 => exact (fun _ hw => run_loadM (x := .tmp 5) rfl rfl hw.m0)
  try simp only [Act.put, List.setIfInBounds_toArray, List.set_cons_zero, List.set_cons_succ]
  refine wpAnyH_ready (rs := [7]) (by kernel_rfl) (by simp) ?_
  refine AllReadyH.cons rfl (fun K hK => ?_) AllReadyH.nil
  go_simp
  refine (heldT (Q3.out _ (HIN.out _ hS) (HT.out.below hS.bel)) hS).mono ?_
  rintro e w7 ⟨rfl, hS7⟩
  refine hK.out _ _ hS7 (fun _ => ?_)
  clear hK K hS
  have hS := hS7
  clear hS7
  try simp only [Act.put, List.setIfInBounds_toArray, List.set_cons_zero, List.set_cons_succ]
  refine wpAnyH_ready (rs := [9]) (by kernel_rfl) (by simp) ?_
  refine AllReadyH.cons rfl (fun K hK => ?_) AllReadyH.nil
  go_simp
  refine (heldT (Q4.out _ (HIN.out _ hS)) hS).mono ?_
  rintro e w9 ⟨rfl, hS9⟩
  refine hK.out _ _ hS9 (fun _ => ?_)
  clear hK K hS
  have hS := hS9
  clear hS9
  try simp only [Act.put, List.setIfInBounds_toArray, List.set_cons_zero, List.set_cons_succ]
  refine H.tk (i := 10) (v := .bool false) ?h10 hS ?_
  case h10 => exact (fun w hw => by go_simp)
  try simp only [Act.put, List.setIfInBounds_toArray, List.set_cons_zero, List.set_cons_succ]
  refine H.tk (i := 11) (v := (.bool false)) (fun w _ => rfl) hS ?_
  try simp only [Act.put, List.setIfInBounds_toArray, List.set_cons_zero, List.set_cons_succ]
  refine H.tk (i := 12) (v := (.bool false)) (fun w _ => rfl) hS ?_
  try simp only [Act.put, List.setIfInBounds_toArray, List.set_cons_zero, List.set_cons_succ]
  refine H.tk (i := 13) (v := ?v13) ?h13 hS ?_
  case h13 => (intro w hw; go_simp; first | done | (with_reducible rfl))
  try simp only [Act.put, List.setIfInBounds_toArray, List.set_cons_zero, List.set_cons_succ]
  refine H.tk (i := 14) (v := .int .i64 m.ae) ?h14 hS ?_
  case h14 => exact (fun _ hw => by have c := hw.m0.cs.c5; go_simp)
  try simp only [Act.put, List.setIfInBounds_toArray, List.set_cons_zero, List.set_cons_succ]
  refine H.tk (i := 16) (v := ?v16) ?h16 hS ?_
  case h16 => (intro w hw; go_simp; first | done | (with_reducible rfl))
  try simp only [Act.put, List.setIfInBounds_toArray, List.set_cons_zero, List.set_cons_succ]
  refine H.tk (i := 17) (v := .int .i64 m.ae) ?h17 hS ?_
  case h17 => exact (fun _ hw => by have c := hw.m0.cs.c5; go_simp)
  try simp only [Act.put, List.setIfInBounds_toArray, List.set_cons_zero, List.set_cons_succ]
  refine wpAnyH_ready (rs := [15]) (by kernel_rfl) (by simp) ?_
  refine AllReadyH.cons rfl (fun K hK => ?_) AllReadyH.nil
  go_simp
  refine (heldQ (Q5.out _) hS).mono ?_
  rintro e w15 ⟨rfl, hS15⟩
  refine hK.out _ _ hS15 (fun _ => ?_)
  clear hK K hS
  have hS := hS15
  clear hS15
  try simp only [Act.put, List.setIfInBounds_toArray, List.set_cons_zero, List.set_cons_succ]
  refine wpAnyH_ready (rs := [18]) (by kernel_rfl) (by simp) ?_
  refine AllReadyH.cons rfl (fun K hK => ?_) AllReadyH.nil
  go_simp
  refine (heldQ (Q6.out _) hS).mono ?_
  rintro e w18 ⟨rfl, hS18⟩
  refine hK.out _ _ hS18 (fun _ => ?_)
  clear hK K hS
  have hS := hS18
  clear hS18
  try simp only [Act.put, List.setIfInBounds_toArray, List.set_cons_zero, List.set_cons_succ]
  refine H.tk (i := 19) (v := .bool false) ?h19 hS ?_
  case h19 => exact (fun w hw => by go_simp)
  try simp only [Act.put, List.setIfInBounds_toArray, List.set_cons_zero, List.set_cons_succ]
  refine H.tk (i := 20) (v := (.bool false)) (fun w _ => rfl) hS ?_
  try simp only [Act.put, List.setIfInBounds_toArray, List.set_cons_zero, List.set_cons_succ]
  refine wpAnyH_done (by kernel_rfl) ?_ _
  have D := Lib.hid hS
  clear hS q1 q1' q2 q2' q3 q3' Q1 Q3 Q4 Q5 Q6 HIN
  generalize w18 = V1 at *
  cases y1
  · go_wp2_with (first | (refine wpList_loadX (b := w.heap.size) (m := c) rfl _ rfl rfl D.out.s0 ?_))
    refine (Q2.out _).mono ?_
    rintro r w2 ⟨rfl, hb⟩
    have D := Lib.hid (D.out.call hb)
    clear hb Q2
    have ct := D.out.t0.cell 0 (.int .i64 t) rfl
    go_wp2_with fail
    refine (awake_any _ (HT.out.below D.out.bel)).mono ?_
    rintro r w3 ⟨rfl, hb⟩
    have HB := Lib.hid (bcall D.out.bel hb)
    clear hb
    go_wp2
    go_ret
    exact ⟨rfl, HB.out⟩
  by_cases h6 : t < 6
  · go_wp2_with (first | (refine wpList_loadX (b := w.heap.size) (m := c) rfl _ rfl rfl D.out.s0 ?_))
    refine (Q2.out _).mono ?_
    rintro r w2 ⟨rfl, hb⟩
    have D := Lib.hid (D.out.call hb)
    clear hb Q2
    have ct := D.out.t0.cell 0 (.int .i64 t) rfl
    go_wp2_with fail
    refine (awake_any _ (HT.out.below D.out.bel)).mono ?_
    rintro r w3 ⟨rfl, hb⟩
    have HB := Lib.hid (bcall D.out.bel hb)
    clear hb
    go_wp2
    go_ret
    exact ⟨rfl, HB.out⟩
  by_cases h8 : 8 < t
  · go_wp2_with (first | (refine wpList_loadX (b := w.heap.size) (m := c) rfl _ rfl rfl D.out.s0 ?_))
    refine (Q2.out _).mono ?_
    rintro r w2 ⟨rfl, hb⟩
    have D := Lib.hid (D.out.call hb)
    clear hb Q2
    have ct := D.out.t0.cell 0 (.int .i64 t) rfl
    go_wp2_with fail
    refine (awake_any _ (HT.out.below D.out.bel)).mono ?_
    rintro r w3 ⟨rfl, hb⟩
    have HB := Lib.hid (bcall D.out.bel hb)
    clear hb
    go_wp2
    go_ret
    exact ⟨rfl, HB.out⟩
  have hc : okC c = true := HY1.out
  have ht3 : t = 6 ∨ t = 7 ∨ t = 8 := by omega
  have P1 := Lib.hid (fun V (y : Tab V) => K6.step_any c a t d V ht3 hc (by omega) y)
  have P2 := Lib.hid (fun V (y : Tab V) => K8.rstep_any c a t d V ht3 hc (by omega))
  have HS := Lib.hid (out_short t d hc)
  have HL := Lib.hid (out_good t d hc).told
  go_wp2_with (first | (refine wpList_loadX (b := w.heap.size) (m := c) rfl _ rfl rfl D.out.s0 ?_))
  refine (Q2.out _).mono ?_
  rintro r w2 ⟨rfl, hb⟩
  have D := Lib.hid (D.out.call hb)
  clear hb Q2
  have ct := D.out.t0.cell 0 (.int .i64 t) rfl
  go_upto_region 7 with fail
  clear ct h6 h8 hc ht3 HY1
  generalize outC c t d = q at *
  go_wp2_with (first | (refine wpList_loadX (b := w.heap.size) (m := c) rfl _ rfl rfl D.out.s0 ?_) | (refine Bk.wpList_loadK (b := w.heap.size + 1) Tl.shT rfl _ rfl rfl D.out.t0 rfl ?_))
  refine (P1.out _ (HT.out.below D.out.bel)).mono ?_
  rintro e w4 ⟨qa1, qk1, l1, rfl, hp1, hm1, hb⟩
  have D := Lib.hid (D.out.call hb)
  clear hb
  go_upto_region 8 with (refine wpList_storeX (b := w4.heap.size) (m := Kx.zero) (m' := q.1) rfl _ _ rfl rfl rfl (Bk.Bk.new 25 w4 Kx.zero.cells) ?_)
  change Code.wp _ _ _ _ ((w4.alloc (.cells Kx.zero.cells 25)).setRow w4.heap.size q.1.cells)
  rw [World.setRow_alloc_new]
  have bel := balloc (Below.refl w4.heap.size w4) (.cells q.1.cells 25)
  have D := Lib.hid (D.out.call bel)
  have XS1 := Lib.hid (Bk.Bk.new 25 w4 q.1.cells)
  have HM1 := Lib.hid (hm1.row.below bel)
  have HP1 := Lib.hid hp1
  clear bel hm1 hp1
  generalize w4.alloc (.cells q.1.cells 25) = V2 at *
  generalize w4.heap.size = g1 at *
  clear P1
  go_wp2_with (first | (refine wpList_loadX (b := w.heap.size) (m := c) rfl _ rfl rfl D.out.s0 ?_) | (refine Bk.wpList_loadK (b := w.heap.size + 1) Tl.shT rfl _ rfl rfl D.out.t0 rfl ?_))
  refine (P2.out _ (HT.out.below D.out.bel)).mono ?_
  rintro e w5 ⟨qa2, qk2, l2, rfl, hp2, hm2, hb⟩
  have D := Lib.hid (D.out.call hb)
  have XS1 := Lib.hid (XS1.out.below hb)
  have HM1 := Lib.hid (HM1.out.below hb)
  clear hb
  go_upto_region 9 with (refine wpList_storeX (b := w5.heap.size) (m := Kx.zero) (m' := q.1) rfl _ _ rfl rfl rfl (Bk.Bk.new 25 w5 Kx.zero.cells) ?_)
  change Code.wp _ _ _ _ ((w5.alloc (.cells Kx.zero.cells 25)).setRow w5.heap.size q.1.cells)
  rw [World.setRow_alloc_new]
  have bel := balloc (Below.refl w5.heap.size w5) (.cells q.1.cells 25)
  have D := Lib.hid (D.out.call bel)
  have XS1 := Lib.hid (XS1.out.below bel)
  have HM1 := Lib.hid (HM1.out.below bel)
  have XS2 := Lib.hid (Bk.Bk.new 25 w5 q.1.cells)
  have HM2 := Lib.hid (hm2.row.below bel)
  have HP2 := Lib.hid hp2
  clear bel hm2 hp2
  generalize w5.alloc (.cells q.1.cells 25) = V3 at *
  generalize w5.heap.size = g2 at *
  clear P2
  obtain ⟨x, ml, er⟩ := q
  have hse : sameL l1 l2 = true := by rw [HP1.out.same HP2.out]; exact sameL_refl _
  have hln : l1.length ≤ 1 ∧ l2.length ≤ 1 := by
    rw [HP1.out.1, HP2.out.1]
    rcases HL.out with h | ⟨m, h, _⟩ <;> rw [h] <;> exact ⟨by simp, by simp⟩
  have PS := Lib.hid (fun V h h' => rsameAll_any qa1 qa2 qk1 qk2 l1 l2 V h h' (HP1.out.short HS.out) (HP2.out.short HS.out) (by omega) (by omega))
  rw [hse] at PS
  have e1 := int_same er
  clear hse hln HP1 HP2 HS HL
  go_wp2_with fail
  refine (awake_any _ (HT.out.below D.out.bel)).mono ?_
  rintro r w6 ⟨rfl, hb⟩
  have D := Lib.hid (D.out.call hb)
  have XS1 := Lib.hid (XS1.out.below hb)
  have XS2 := Lib.hid (XS2.out.below hb)
  have HM1 := Lib.hid (HM1.out.below hb)
  have HM2 := Lib.hid (HM2.out.below hb)
  clear hb
  go_wp2_with (first | (refine st_yes (v := .agg x.cells) (by rfl) rfl (run_loadK shX (x := .tmp 7) rfl rfl XS1.out rfl) ?_) | (refine st_yes (v := .agg x.cells) (by rfl) rfl (run_loadK shX (x := .tmp 10) rfl rfl XS2.out rfl) ?_) | (refine st_yes (v := .bool true) (by rfl) rfl (ex_eqX (c := x) (x := .tmp 80) (y := .tmp 81) rfl rfl rfl) ?_))
  refine (PS.out _ HM1.out HM2.out).mono ?_
  rintro r w7 ⟨rfl, hb⟩
  have HB := Lib.hid (bcall D.out.bel hb)
  clear hb
  go_wp2
  go_ret
  exact ⟨rfl, HB.out⟩

theorem own : ownKnob Tryz.prog.godebug = none := by kernel_rfl

set_option maxRecDepth 100000 in
theorem lifted (os : Os) (started : os.Started) (H : Type) (enc : TypeId × Value → H) :
    ReturnsInHanded {} Tryz.checked os 3 .any (fun w args => (Rows.ctxTellsSpec.pre enc Tryz.prog Tryz.f3 Rows.ctxTellsRow.domain false w args ∧ laidMetH Tryz.prog Rows.ctxTellsRow.laid w) ∧ sizedMet enc Tryz.prog Tryz.f3 (OpenSpec.ofChange Rows.ctxTellsSpec) false w args)
      (Rows.ctxTellsSpec.post enc Tryz.prog Tryz.f3 false true false false) := by
  refine returnsInHanded_of_change_and (C := Tryz.checked) (X := fun w _ => laidMetH Tryz.prog Rows.ctxTellsRow.laid w) (fun _ _ _ hh h => h.of_heap hh) own started (by kernel_rfl) Tryz.func3
    (ChangeSpec.witness_shaped (enc := enc) (C := Tryz.checked) (os := os) (X := fun w _ => laidMetH Tryz.prog Rows.ctxTellsRow.laid w) false (World.laidAll Tryz.prog os Rows.ctxTellsRow.laid) #[.agg Kx.zero.cells, .agg #[.int .i64 0, .int .i64 0, .string ByteArray.empty], .agg M.zero.cells] 8 (World.laidAll_os _ _ _)
      (World.shaped_of_ZipB (by kernel_rfl) (by kernel_rfl)) (by kernel_rfl) (by kernel_rfl) (by kernel_rfl)
      (by rw [MakeChecks.laidMetH_plain _ _ _ (by kernel_rfl)]; exact laidMet_laidAll _ (by kernel_rfl) (by kernel_rfl))) ?_
  intro W base args ds gs before hval0 hW _ _ hL0 _
  have hMet := of_laid hL0
  have hval : ∀ (j : Nat) t v, Tryz.f3.params[j]? = some t → args[j]? = some v → Value.okWide Tryz.prog W .any base t v := hval0
  have hW' := hW
  have hlt := fun x hx => hW'.lt x hx
  obtain ⟨p, q, hA0, hV, rfl, hfz, hnd⟩ := hW
  have hA : DataW.TrodAll enc Tryz.prog W 0 (fun _ => true) true Tryz.f3.params.toList args.toList ds p := hA0
  rw [Tryz.params3] at hA hval
  obtain ⟨v0, vs0, d0, ds0, p0, q0, hargs, rfl, rfl, h0, r0⟩ := trodAll_cons hA
  obtain ⟨v1, vs1, d1, ds1, p1, q1, rfl, rfl, rfl, h1, r1⟩ := trodAll_cons r0
  obtain ⟨v2, vs2, d2, ds2, p2, q2, rfl, rfl, rfl, h2, r2⟩ := trodAll_cons r1
  obtain ⟨rfl, rfl, rfl⟩ := trodAll_nil r2
  obtain rfl : args = #[v0, v1, v2] := by cases args; simp_all
  obtain ⟨rfl, rfl⟩ := trodVars_none hV
  obtain ⟨c, rfl, hf⟩ := by_ctx (hval 0 25 v0 rfl rfl) h0
  obtain ⟨a, d, t, rfl, hz⟩ := by_tlv (hval 1 27 v1 rfl rfl) h1
  obtain ⟨m, rfl, hd, hs, hp⟩ := by_valueP (hval 2 31 v2 rfl rfl) h2
  clear hA0 hval0
  simp only [List.append_nil] at hW' hlt
  refine (walk c a t d m W hf hz hd hs hp hMet).mono fun e W' ⟨he, hg⟩ => ?_
  subst he
  exact ⟨_, rfl, _, _, _, [], _, [], hW', trodAll_mk1 (shut_bool Tryz.underlying4 _), (trodAll_cons_mk (again (by kernel_rfl) (of_decide_eq_true (by kernel_rfl)) h0 hg fun x hx => hlt x (by first | exact absurd hx (by simp) | simp [hx])) (trodAll_cons_mk (again (by kernel_rfl) (of_decide_eq_true (by kernel_rfl)) h1 hg fun x hx => hlt x (by first | exact absurd hx (by simp) | simp [hx])) (trodAll_cons_mk (again (by kernel_rfl) (of_decide_eq_true (by kernel_rfl)) h2 hg fun x hx => hlt x (by first | exact absurd hx (by simp) | simp [hx])) trodAll_mk0))), rfl, hg.frame _, fun h => by cases h⟩

theorem over : Rows.CtxTellsSaid :=
  OpenClaim.holds_of_wide 3 Tryz.f3 rfl rfl rfl rfl rfl rfl rfl ⟨rfl, rfl, rfl, rfl, rfl⟩ rfl rfl rfl rfl rfl (by kernel_rfl) Tryz.func3 (by kernel_rfl)
    (of_decide_eq_true (by kernel_rfl)) (by unfold Func.isWrapper; first | (rw [if_pos (by decide +kernel)]; kernel_rfl) | (rw [if_neg (by decide +kernel)]; exact ⟨rfl, rfl⟩))
    (fun os started H enc _ => lifted os started H enc)

theorem proved : Rows.CtxTellsCardSaid :=
  Claim7.holds_tied_plain_at .later [] _ true _ _
    over (fun _ h => by cases h) (by kernel_rfl) (fun _ h => by cases h) ctxTells_row_tie rfl ⟨rfl, rfl⟩ (by kernel_rfl) rfl
    (fun f fn hf hfn => by
      obtain rfl : f = 3 := Option.some.inj ((show Tryz.prog.funcNamed "roadbook/roadbooklaw22.CtxTells" = some 3 by kernel_rfl).symm.trans hf) |>.symm
      obtain rfl : fn = Tryz.f3 := (Option.some.inj (Tryz.func3.symm.trans hfn)).symm
      exact ⟨by kernel_rfl, fun j t ht => by
        rw [Tryz.params3] at ht
        have hm : t ∈ [25, 27, 31] := by simpa using Array.mem_of_getElem? ht
        have hall : ([25, 27, 31].all fun u => !Tryz.prog.wantsStandIn u) = true := by kernel_rfl
        exact (show Tryz.prog.wantsStandIn t = false by simpa using List.all_eq_true.1 hall t hm)⟩)
    (by kernel_rfl)
#print axioms proved
end Go.Proofs.YteecialdkfaejaaGreatDoor.ctxTells
