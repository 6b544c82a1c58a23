/-
  The statement LeanBack, of anything known and any message. Condition: the listed variables have what the program's text lays them with (the tied card).
-/
import Derived.Test.YtfegdblaohhdoaaGreatDoorB04
import Derived.Test.YtfegdblaohhdoaaGreatDoorB10
import Derived.Test.YtfegdblaohhdoaaGreatDoorB15
import Derived.Test.YtfegdblaohhdoaaGreatDoorCards
import Derived.Test.YtfegdblaohhdoaaGreatDoorTie
import Derived.Lay
import Derived.SevenTiedAt
import Derived.Stop.Joined
namespace Go.Proofs.YtfegdblaohhdoaaGreatDoor.leanBack
open Go.ChangeShapes Go.WideShapes Go.ChangeAt Go.RowKit
open Go.ChangeMaps (open_string shut_string)
open Go.Proofs.YtfegdblaohhdoaaGreatDoor.Ms
open Go.Proofs.YtfegdblaohhdoaaGreatDoor.Box
open Go.Proofs.YtfegdblaohhdoaaGreatDoor.All
open Go.Proofs.YtfegdblaohhdoaaGreatDoor.J1
open Go.Proofs.YtfegdblaohhdoaaGreatDoor.An
open Go.Proofs.YtfegdblaohhdoaaGreatDoor.Tc
open Go.Proofs.YtfegdblaohhdoaaGreatDoor.K1
open Go.Proofs.YtfegdblaohhdoaaGreatDoor.Kb
open Go.Proofs.YtfegdblaohhdoaaGreatDoor.Hs
open Go.Proofs.YtfegdblaohhdoaaGreatDoor.Open
set_option linter.unusedVariables false

open Go.Proofs.YtfegdblaohhdoaaGreatDoor.Nu (text_eq ext_list)
open Go.Proofs.YtfegdblaohhdoaaGreatDoor.Tl (cellsT TRow Lst indexT)
open Go.Proofs.YtfegdblaohhdoaaGreatDoor.Or (st_yes)
open Go.Proofs.YtfegdblaohhdoaaGreatDoor.Hy (H.one H.two wp_valW)
open Go.Proofs.YtfegdblaohhdoaaGreatDoor.Bk (Bk wpList_builtK run_loadK alloc_size loadVarK)
open Go.Proofs.YtfegdblaohhdoaaGreatDoor.F1 (T encT placed placed_append placed_len outT bt bt_nn bt_lt)
open Go.Proofs.YtfegdblaohhdoaaGreatDoor.F2 (idx sl_m sl_l)
open Go.Proofs.YtfegdblaohhdoaaGreatDoor.F4 (AnsT)
open Go.Proofs.YtfegdblaohhdoaaGreatDoor.L1
open Go.Proofs.YtfegdblaohhdoaaGreatDoor.L2
open Go.Proofs.YtfegdblaohhdoaaGreatDoor.Cx
open Go.Proofs.YtfegdblaohhdoaaGreatDoor.Lc
open Go.Proofs.YtfegdblaohhdoaaGreatDoor.J2 (nil_eq nil_em)
open Go.Proofs.YtfegdblaohhdoaaGreatDoor.K9 (One one_of run_loadO)
/-- The law's boxes, two of what is known, and the one message that was told. -/
structure Db (w : World) (c : Kx) (m : M) (g1 g2 : Nat) (c1 c2 : Kx) (q : Addr) (n : M) (W : World) : Prop where
  v : Vs w c m W
  d1 : Bk 25 W g1 c1.cells
  d2 : Bk 25 W g2 c2.cells
  o : One W q n
theorem Db.call {w V W : World} {c c1 c2 : Kx} {m n : M} {g1 g2 : Nat} {q : Addr} (h : Db w c m g1 g2 c1 c2 q n V) (hb : Below V.heap.size V W) : Db w c m g1 g2 c1 c2 q n W := ⟨h.v.call hb, h.d1.below hb, h.d2.below hb, h.o.below hb⟩
theorem heldB {P : Program} {f : Nat} {args : Array Value} {v : Ending} {w W : World} {c c1 c2 : Kx} {m n : M} {g1 g2 : Nat} {q : Addr} (h : Calls P f args W fun e w' => e = v ∧ Below W.heap.size W w') (hS : Db w c m g1 g2 c1 c2 q n W) : Calls P f args W fun e w' => e = v ∧ Db w c m g1 g2 c1 c2 q n w' :=
  h.mono fun _ _ ⟨he, hb⟩ => ⟨he, hS.call hb⟩
theorem indexM (p : Addr) (k : Nat) (W : World) : (Instr.indexAt 39 (.slice (some p) 1 k) (.int .i64 0)).run Tryz.prog W = .ok (.pointer (some p)) W := by
  have he : Tryz.prog.elem 39 = 29 := by simp [Program.elem, Tryz.underlying39]
  have hz : (sizeOf 29).run Tryz.prog W = .ok 25 W := by kernel_rfl
  rw [run_indexAt_slice W 39 p 1 k .i64 0 (by rw [he]; exact Tryz.underlying39), if_pos (by omega), he, hz]
  show Result.ok (Value.pointer (some (p.add 0))) W = _
  rw [K9.add_zero]
/-- What was told is the message, but for where its Subs stand. -/
theorem told_same {n m : M} (h : Pl n (canM m)) (ho : okL m = true) : M.same n m = true ∧ n.ll = [] ∧ n.sl = m.sl := by
  obtain ⟨h1, h2, h3, h4, h5⟩ := can_same ho
  refine ⟨?_, by rw [show n = _ from h]; exact h3, by rw [show n = _ from h]; exact h5⟩
  rw [h.same (Pl.refl m), Le.same_symm]
  exact h1

set_option maxHeartbeats 51200000 in
set_option maxRecDepth 100000 in
theorem walk (c : Kx) (m : M) (w : World) (hf : Fit c) (hd : DRow w m.la m.ll) (hs : SRow w m.sa m.sl) (hp : m.pfx.size ≤ maxLen) (ht : Tab w) :
    Calls Tryz.prog 4 #[.agg c.cells, .agg m.cells] w fun r w' => r = .returned (.bool true) ∧ Below w.heap.size w w' := by
  have hid : c.id.size ≤ maxLen := hf.2.2.2.2.2.2
  unfold maxLen at hid
  have HT := Lib.hid ht
  have h1 := ht.pos
  have D := Lib.hid (Vs.start w c m hd hs)
  have PA := Lib.hid (fun V (y : Tab V) => La.awake_any V y)
  clear ht hf hd hs
  go_enter Tryz.func4, Tryz.ntmps4
  go_upto_region 1 with fail
  change Code.wp _ _ _ _ ((w.alloc (.cells c.cells 25)).alloc (.cells m.cells 29))
  generalize (w.alloc (.cells c.cells 25)).alloc (.cells m.cells 29) = V at *
  have PF := Lib.hid (Few.few_any m V D.out.d D.out.s)
  have PO := Lib.hid (fun V => Ko.rok_any c V)
  have ci := D.out.s0.cell 6 (.string c.id) rfl
  by_cases hf : Few.fewB m = true
  rotate_left
  · have hf : Few.fewB m = false := by simpa using hf
    rw [hf] at PF
    clear hf
    go_wp2_with (first | (refine wpList_loadM (b := w.heap.size + 1) (m := m) rfl _ rfl rfl D.out.m0 ?_))
    refine PF.out.mono ?_
    rintro r w1 ⟨rfl, hb⟩
    have D := Lib.hid (D.out.call hb)
    clear hb PF ci
    have ci := D.out.s0.cell 6 (.string c.id) rfl
    go_wp2_with fail
    refine (PA.out _ (HT.out.below D.out.bel)).mono ?_
    rintro r w9 ⟨rfl, hb⟩
    have HB := Lib.hid (bcall D.out.bel hb)
    clear hb
    go_wp2
    go_ret
    exact ⟨rfl, HB.out⟩
  have hfew := few_parts hf
  rw [hf] at PF
  have HIN := Lib.hid (fun W (h : Vs w c m W) => few_in hf h.d h.s)
  by_cases h100 : 100 < c.id.size
  · have h100' : 100 < (c.id.size : Int) := by omega
    clear HIN hfew hf
    go_wp2_with (first | (refine wpList_loadM (b := w.heap.size + 1) (m := m) rfl _ rfl rfl D.out.m0 ?_))
    refine PF.out.mono ?_
    rintro r w1 ⟨rfl, hb⟩
    have D := Lib.hid (D.out.call hb)
    clear hb PF ci
    have ci := D.out.s0.cell 6 (.string c.id) rfl
    go_wp2_with fail
    refine (PA.out _ (HT.out.below D.out.bel)).mono ?_
    rintro r w9 ⟨rfl, hb⟩
    have HB := Lib.hid (bcall D.out.bel hb)
    clear hb
    go_wp2
    go_ret
    exact ⟨rfl, HB.out⟩
  have h100' : ¬ 100 < (c.id.size : Int) := by omega
  have d100 : decide (100 < (c.id.size : Int)) = false := decide_eq_false h100'
  cases hc : okC c
  · rw [hc] at PO
    clear HIN hfew hf hc
    go_wp2_with (first | (refine wpList_loadM (b := w.heap.size + 1) (m := m) rfl _ rfl rfl D.out.m0 ?_))
    refine PF.out.mono ?_
    rintro r w1 ⟨rfl, hb⟩
    have D := Lib.hid (D.out.call hb)
    clear hb PF ci
    have ci := D.out.s0.cell 6 (.string c.id) rfl
    go_wp2_with (first | (refine st_yes (v := .agg c.cells) (by rfl) rfl (run_loadK shX (x := .tmp 2) rfl rfl D.out.s0 rfl) ?_))
    refine (PO.out _).mono ?_
    rintro r w2 ⟨rfl, hb⟩
    have D := Lib.hid (D.out.call hb)
    clear hb PO ci
    go_wp2_with fail
    refine (PA.out _ (HT.out.below D.out.bel)).mono ?_
    rintro r w9 ⟨rfl, hb⟩
    have HB := Lib.hid (bcall D.out.bel hb)
    clear hb
    go_wp2
    go_ret
    exact ⟨rfl, HB.out⟩
  rw [hc] at PO
  have ln : m.sl.length ≤ 2000 := by have := hfew.2.1; omega
  have hl60 := hfew.2.1
  have PP := Lib.hid (fun V (y : m.In V) (z : Tab V) => Lv.put_any c m V y ln hfew.2.2 hp hc z)
  have RP := Lib.hid (fun V (y : m.In V) (z : Tab V) => L5.right_any m V y hfew.2.2 hp z)
  clear hp hfew
  cases hl : okL m
  · rw [put_no hl] at PP
    rw [hl] at RP
    clear hl hc ln hl60 hf
    have ne1 := nil_eq ByteArray.empty
    have ne2 := nil_em ByteArray.empty
    rw [decide_eq_true (show ByteArray.empty.size = 0 from rfl)] at ne1 ne2
    generalize ByteArray.empty = s at *
    go_wp2_with (first | (refine wpList_loadM (b := w.heap.size + 1) (m := m) rfl _ rfl rfl D.out.m0 ?_))
    refine PF.out.mono ?_
    rintro r w1 ⟨rfl, hb⟩
    have D := Lib.hid (D.out.call hb)
    clear hb PF ci
    have ci := D.out.s0.cell 6 (.string c.id) rfl
    go_wp2_with (first | (refine st_yes (v := .agg c.cells) (by rfl) rfl (run_loadK shX (x := .tmp 2) rfl rfl D.out.s0 rfl) ?_))
    refine (PO.out _).mono ?_
    rintro r w2 ⟨rfl, hb⟩
    have D := Lib.hid (D.out.call hb)
    clear hb PO ci
    go_wp2_with (first | (refine wpList_loadX (b := w.heap.size) (m := c) rfl _ rfl rfl D.out.s0 ?_) | (refine wpList_loadM (b := w.heap.size + 1) (m := m) rfl _ rfl rfl D.out.m0 ?_))
    refine (PP.out _ (HIN.out _ D.out) (HT.out.below D.out.bel)).mono ?_
    rintro r w3 ⟨rfl, hb⟩
    have D := Lib.hid (D.out.call hb)
    clear hb PP
    go_upto_region 4 with (refine wpList_storeX (b := w3.heap.size) (m := Kx.zero) (m' := c) rfl _ _ rfl rfl rfl (Bk.Bk.new 25 w3 Kx.zero.cells) ?_)
    change Code.wp _ _ _ _ ((w3.alloc (.cells Kx.zero.cells 25)).setRow w3.heap.size (Kx.cells c))
    rw [World.setRow_alloc_new]
    have bel := balloc (Below.refl w3.heap.size w3) (.cells (Kx.cells c) 25)
    have D := Lib.hid (D.out.call bel)
    have S1 := Lib.hid (Bk.Bk.new 25 w3 (Kx.cells c))
    clear bel
    generalize w3.alloc (.cells (Kx.cells c) 25) = V4 at *
    generalize w3.heap.size = g1 at *
    go_wp2_with fail
    refine (PA.out _ (HT.out.below D.out.bel)).mono ?_
    rintro r w9 ⟨rfl, hb⟩
    have D := Lib.hid (D.out.call hb)
    have S1 := Lib.hid (S1.out.below hb)
    clear hb
    go_wp2_with (first | (refine st_yes (v := .agg (Kx.cells c)) (by rfl) rfl (run_loadK shX (x := .tmp 6) rfl rfl S1.out rfl) ?_) | (refine st_yes (v := .agg (Kx.cells c)) (by rfl) rfl (run_loadK shX (x := .tmp 2) rfl rfl D.out.s0 rfl) ?_) | (refine st_yes (v := .bool true) (by rfl) rfl (ex_eqX rfl rfl rfl) ?_) | (refine st_yes (v := .agg (M.cells m)) (by rfl) rfl (run_loadM (x := .tmp 3) rfl rfl D.out.m0) ?_))
    refine (RP.out _ (HIN.out _ D.out) (HT.out.below D.out.bel)).mono ?_
    rintro r w6 ⟨rfl, hb⟩
    have D := Lib.hid (D.out.call hb)
    clear hb RP
    go_wp2_with fail
    go_ret
    exact ⟨rfl, D.out.bel⟩
  rw [hl] at RP
  cases hb : badC c m
  rotate_left
  · rw [put_bad hl hb] at PP
    clear hl hb hc ln hl60 hf
    have ne1 := nil_eq ByteArray.empty
    have ne2 := nil_em ByteArray.empty
    rw [decide_eq_true (show ByteArray.empty.size = 0 from rfl)] at ne1 ne2
    generalize ByteArray.empty = s at *
    go_wp2_with (first | (refine wpList_loadM (b := w.heap.size + 1) (m := m) rfl _ rfl rfl D.out.m0 ?_))
    refine PF.out.mono ?_
    rintro r w1 ⟨rfl, hb⟩
    have D := Lib.hid (D.out.call hb)
    clear hb PF ci
    have ci := D.out.s0.cell 6 (.string c.id) rfl
    go_wp2_with (first | (refine st_yes (v := .agg c.cells) (by rfl) rfl (run_loadK shX (x := .tmp 2) rfl rfl D.out.s0 rfl) ?_))
    refine (PO.out _).mono ?_
    rintro r w2 ⟨rfl, hb⟩
    have D := Lib.hid (D.out.call hb)
    clear hb PO ci
    go_wp2_with (first | (refine wpList_loadX (b := w.heap.size) (m := c) rfl _ rfl rfl D.out.s0 ?_) | (refine wpList_loadM (b := w.heap.size + 1) (m := m) rfl _ rfl rfl D.out.m0 ?_))
    refine (PP.out _ (HIN.out _ D.out) (HT.out.below D.out.bel)).mono ?_
    rintro r w3 ⟨rfl, hb⟩
    have D := Lib.hid (D.out.call hb)
    clear hb PP
    go_upto_region 4 with (refine wpList_storeX (b := w3.heap.size) (m := Kx.zero) (m' := c) rfl _ _ rfl rfl rfl (Bk.Bk.new 25 w3 Kx.zero.cells) ?_)
    change Code.wp _ _ _ _ ((w3.alloc (.cells Kx.zero.cells 25)).setRow w3.heap.size (Kx.cells c))
    rw [World.setRow_alloc_new]
    have bel := balloc (Below.refl w3.heap.size w3) (.cells (Kx.cells c) 25)
    have D := Lib.hid (D.out.call bel)
    have S1 := Lib.hid (Bk.Bk.new 25 w3 (Kx.cells c))
    clear bel
    generalize w3.alloc (.cells (Kx.cells c) 25) = V4 at *
    generalize w3.heap.size = g1 at *
    go_wp2_with fail
    refine (PA.out _ (HT.out.below D.out.bel)).mono ?_
    rintro r w9 ⟨rfl, hb⟩
    have D := Lib.hid (D.out.call hb)
    have S1 := Lib.hid (S1.out.below hb)
    clear hb
    go_wp2_with (first | (refine st_yes (v := .agg (Kx.cells c)) (by rfl) rfl (run_loadK shX (x := .tmp 6) rfl rfl S1.out rfl) ?_) | (refine st_yes (v := .agg (Kx.cells c)) (by rfl) rfl (run_loadK shX (x := .tmp 2) rfl rfl D.out.s0 rfl) ?_) | (refine st_yes (v := .bool true) (by rfl) rfl (ex_eqX rfl rfl rfl) ?_) | (refine st_yes (v := .agg (M.cells m)) (by rfl) rfl (run_loadM (x := .tmp 3) rfl rfl D.out.m0) ?_))
    refine (RP.out _ (HIN.out _ D.out) (HT.out.below D.out.bel)).mono ?_
    rintro r w6 ⟨rfl, hb⟩
    have D := Lib.hid (D.out.call hb)
    clear hb RP
    go_wp2_with fail
    go_ret
    exact ⟨rfl, D.out.bel⟩
  rw [put_yes hl hb] at PP
  have PT := Lib.hid (fun V => Le.tk_any c m V hc hl hb)
  have POK := Lib.hid (fun V => Ko.rok_any (ctxL c m) V)
  rw [put_ok hc hl hb] at POK
  have HTS := Lib.hid (fun n (h : Pl n (canM m)) => told_same h hl)
  have PS := Lib.hid (fun (n : M) (h : Pl n (canM m)) V (y : n.In V) (z : m.In V) => RSame.rsame_any n m V y z)
  clear hl hb hc ln hf
  generalize (⟨(encT (elsL c m)).toArray⟩ : ByteArray) = s at *
  generalize ctxL c m = cf at *
  go_wp2_with (first | (refine wpList_loadM (b := w.heap.size + 1) (m := m) rfl _ rfl rfl D.out.m0 ?_))
  refine PF.out.mono ?_
  rintro r w1 ⟨rfl, hb⟩
  have D := Lib.hid (D.out.call hb)
  clear hb PF ci
  have ci := D.out.s0.cell 6 (.string c.id) rfl
  go_wp2_with (first | (refine st_yes (v := .agg c.cells) (by rfl) rfl (run_loadK shX (x := .tmp 2) rfl rfl D.out.s0 rfl) ?_))
  refine (PO.out _).mono ?_
  rintro r w2 ⟨rfl, hb⟩
  have D := Lib.hid (D.out.call hb)
  clear hb PO ci
  go_wp2_with (first | (refine wpList_loadX (b := w.heap.size) (m := c) rfl _ rfl rfl D.out.s0 ?_) | (refine wpList_loadM (b := w.heap.size + 1) (m := m) rfl _ rfl rfl D.out.m0 ?_))
  refine (PP.out _ (HIN.out _ D.out) (HT.out.below D.out.bel)).mono ?_
  rintro r w3 ⟨rfl, hb⟩
  have D := Lib.hid (D.out.call hb)
  clear hb PP RP
  go_upto_region 4 with (refine wpList_storeX (b := w3.heap.size) (m := Kx.zero) (m' := cf) rfl _ _ rfl rfl rfl (Bk.Bk.new 25 w3 Kx.zero.cells) ?_)
  change Code.wp _ _ _ _ ((w3.alloc (.cells Kx.zero.cells 25)).setRow w3.heap.size (Kx.cells cf))
  rw [World.setRow_alloc_new]
  have bel := balloc (Below.refl w3.heap.size w3) (.cells (Kx.cells cf) 25)
  have D := Lib.hid (D.out.call bel)
  have S1 := Lib.hid (Bk.Bk.new 25 w3 (Kx.cells cf))
  clear bel
  generalize w3.alloc (.cells (Kx.cells cf) 25) = V4 at *
  generalize w3.heap.size = g1 at *
  go_wp2_with (first | (refine wpList_loadX (b := w.heap.size) (m := c) rfl _ rfl rfl D.out.s0 ?_))
  refine (PT.out _).mono ?_
  rintro r w3 ⟨q, k, n, rfl, hn, ho, hb⟩
  have D := Lib.hid (D.out.call hb)
  have S1 := Lib.hid (S1.out.below hb)
  have O := Lib.hid ho
  clear hb ho PT
  go_upto_region 7 with (refine wpList_storeX (b := w3.heap.size) (m := Kx.zero) (m' := cf) rfl _ _ rfl rfl rfl (Bk.Bk.new 25 w3 Kx.zero.cells) ?_)
  change Code.wp _ _ _ _ ((w3.alloc (.cells Kx.zero.cells 25)).setRow w3.heap.size (Kx.cells cf))
  rw [World.setRow_alloc_new]
  have bel := balloc (Below.refl w3.heap.size w3) (.cells (Kx.cells cf) 25)
  have D := Lib.hid (D.out.call bel)
  have S1 := Lib.hid (S1.out.below bel)
  have O := Lib.hid (O.out.below bel)
  have S2 := Lib.hid (Bk.Bk.new 25 w3 (Kx.cells cf))
  clear bel
  generalize w3.alloc (.cells (Kx.cells cf) 25) = V5 at *
  generalize w3.heap.size = g2 at *
  obtain ⟨k1, k2, k3⟩ := HTS.out n hn
  have PS := Lib.hid (PS.out n hn)
  rw [k1] at PS
  have HNI := Lib.hid (show ∀ W, One W q n → n.In W from fun W h => h.in (by rw [k2]; exact Nat.zero_le _) (by rw [k3]; omega))
  have ix := fun W => indexM q k W
  clear k1 k2 k3 HTS
  refine wp_region_held_drew (S := fun W => Db w c m g1 g2 cf cf q n W) (by kernel_rfl) ⟨D.out.drew, S1.out, S2.out, O.out.below (Below.refl _ V5).drew⟩ (fun hS => ?_)
  clear D S1 S2 O
  generalize V5.drew = Z0 at *
  refine wpAnyH_ready (rs := [0]) (by kernel_rfl) (by simp) ?_
  refine AllReadyH.cons rfl (fun K hK => ?_) AllReadyH.nil
  go_simp
  refine (heldB (PA.out _ (HT.out.below hS.v.bel)) hS).mono ?_
  rintro e w0 ⟨rfl, hS0⟩
  refine hK.out _ _ hS0 (fun _ => ?_)
  clear hK K hS
  have hS := hS0
  clear hS0
  try simp only [Act.put, List.setIfInBounds_toArray, List.set_cons_zero, List.set_cons_succ]
  refine H.tk (i := 1) (v := (.bool true)) (fun w _ => rfl) hS ?_
  try simp only [Act.put, List.setIfInBounds_toArray, List.set_cons_zero, List.set_cons_succ]
  refine H.tk (i := 2) (v := .bool true) ?h2 hS ?_
  case h2 => exact (fun w hw => by go_simp)
  try simp only [Act.put, List.setIfInBounds_toArray, List.set_cons_zero, List.set_cons_succ]
  refine H.tk (i := 3) (v := (.bool true)) (fun w _ => rfl) hS ?_
  try simp only [Act.put, List.setIfInBounds_toArray, List.set_cons_zero, List.set_cons_succ]
  refine H.tk (i := 4) (v := (.bool true)) (fun w _ => rfl) hS ?_
  try simp only [Act.put, List.setIfInBounds_toArray, List.set_cons_zero, List.set_cons_succ]
  refine H.tk (i := 5) (v := .agg (Kx.cells cf)) ?h5 hS ?_
  case h5 => exact (fun w hw => run_loadK shX (x := .tmp 9) rfl rfl hw.d2 rfl)
  try simp only [Act.put, List.setIfInBounds_toArray, List.set_cons_zero, List.set_cons_succ]
  refine H.tk (i := 6) (v := .agg (Kx.cells cf)) ?h6 hS ?_
  case h6 => exact (fun w hw => run_loadK shX (x := .tmp 6) rfl rfl hw.d1 rfl)
  try simp only [Act.put, List.setIfInBounds_toArray, List.set_cons_zero, List.set_cons_succ]
  refine H.tk (i := 7) (v := .bool true) ?h7 hS ?_
  case h7 => exact (fun w hw => ex_eqX rfl rfl rfl)
  try simp only [Act.put, List.setIfInBounds_toArray, List.set_cons_zero, List.set_cons_succ]
  refine H.tk (i := 8) (v := (.bool true)) (fun w _ => rfl) hS ?_
  try simp only [Act.put, List.setIfInBounds_toArray, List.set_cons_zero, List.set_cons_succ]
  refine H.tk (i := 9) (v := (.bool true)) (fun w _ => rfl) hS ?_
  try simp only [Act.put, List.setIfInBounds_toArray, List.set_cons_zero, List.set_cons_succ]
  refine H.tk (i := 10) (v := .agg (Kx.cells cf)) ?h10 hS ?_
  case h10 => exact (fun w hw => run_loadK shX (x := .tmp 6) rfl rfl hw.d1 rfl)
  try simp only [Act.put, List.setIfInBounds_toArray, List.set_cons_zero, List.set_cons_succ]
  refine wpAnyH_ready (rs := [11]) (by kernel_rfl) (by simp) ?_
  refine AllReadyH.cons rfl (fun K hK => ?_) AllReadyH.nil
  go_simp
  refine (heldB (POK.out _) hS).mono ?_
  rintro e w11 ⟨rfl, hS11⟩
  refine hK.out _ _ hS11 (fun _ => ?_)
  clear hK K hS
  have hS := hS11
  clear hS11
  try simp only [Act.put, List.setIfInBounds_toArray, List.set_cons_zero, List.set_cons_succ]
  refine H.tk (i := 12) (v := (.bool true)) (fun w _ => rfl) hS ?_
  try simp only [Act.put, List.setIfInBounds_toArray, List.set_cons_zero, List.set_cons_succ]
  refine H.tk (i := 13) (v := (.bool true)) (fun w _ => rfl) hS ?_
  try simp only [Act.put, List.setIfInBounds_toArray, List.set_cons_zero, List.set_cons_succ]
  refine H.tk (i := 14) (v := ?v14) ?h14 hS ?_
  case h14 => (intro w hw; go_simp; first | done | (with_reducible rfl))
  try simp only [Act.put, List.setIfInBounds_toArray, List.set_cons_zero, List.set_cons_succ]
  refine H.tk (i := 15) (v := ?v15) ?h15 hS ?_
  case h15 => (intro w hw; go_simp; first | done | (with_reducible rfl))
  try simp only [Act.put, List.setIfInBounds_toArray, List.set_cons_zero, List.set_cons_succ]
  refine H.tk (i := 16) (v := .bool true) ?h16 hS ?_
  case h16 => exact (fun w hw => by go_simp)
  try simp only [Act.put, List.setIfInBounds_toArray, List.set_cons_zero, List.set_cons_succ]
  refine H.tk (i := 17) (v := (.bool true)) (fun w _ => rfl) hS ?_
  try simp only [Act.put, List.setIfInBounds_toArray, List.set_cons_zero, List.set_cons_succ]
  refine H.tk (i := 18) (v := (.bool true)) (fun w _ => rfl) hS ?_
  try simp only [Act.put, List.setIfInBounds_toArray, List.set_cons_zero, List.set_cons_succ]
  refine H.tk (i := 19) (v := ?v19) ?h19 hS ?_
  case h19 => (intro w hw; go_simp; first | done | (with_reducible rfl))
  try simp only [Act.put, List.setIfInBounds_toArray, List.set_cons_zero, List.set_cons_succ]
  refine H.tk (i := 20) (v := .pointer (some q)) ?h20 hS ?_
  case h20 => exact (fun w hw => by go_simp)
  try simp only [Act.put, List.setIfInBounds_toArray, List.set_cons_zero, List.set_cons_succ]
  refine H.tk (i := 21) (v := .agg (M.cells n)) ?h21 hS ?_
  case h21 => exact (fun w hw => run_loadO (x := .tmp 80) rfl rfl hw.o)
  try simp only [Act.put, List.setIfInBounds_toArray, List.set_cons_zero, List.set_cons_succ]
  refine H.tk (i := 22) (v := .agg (M.cells m)) ?h22 hS ?_
  case h22 => exact (fun w hw => run_loadM (x := .tmp 3) rfl rfl hw.v.m0)
  try simp only [Act.put, List.setIfInBounds_toArray, List.set_cons_zero, List.set_cons_succ]
  refine wpAnyH_ready (rs := [23]) (by kernel_rfl) (by simp) ?_
  refine AllReadyH.cons rfl (fun K hK => ?_) AllReadyH.nil
  go_simp
  refine (heldB (PS.out _ (HNI.out _ hS.o) (HIN.out _ hS.v)) hS).mono ?_
  rintro e w23 ⟨rfl, hS23⟩
  refine hK.out _ _ hS23 (fun _ => ?_)
  clear hK K hS
  have hS := hS23
  clear hS23
  try simp only [Act.put, List.setIfInBounds_toArray, List.set_cons_zero, List.set_cons_succ]
  refine H.tk (i := 24) (v := (.bool true)) (fun w _ => rfl) hS ?_
  try simp only [Act.put, List.setIfInBounds_toArray, List.set_cons_zero, List.set_cons_succ]
  refine H.tk (i := 25) (v := (.bool true)) (fun w _ => rfl) hS ?_
  try simp only [Act.put, List.setIfInBounds_toArray, List.set_cons_zero, List.set_cons_succ]
  refine wpAnyH_done (by kernel_rfl) ?_ _
  go_wp2
  go_ret
  exact ⟨rfl, hS.v.bel⟩

theorem own : ownKnob Tryz.prog.godebug = none := by kernel_rfl

set_option maxRecDepth 100000 in
theorem lifted (os : Os) (started : os.Started) (H : Type) (enc : TypeId × Value → H) :
    ReturnsInHanded {} Tryz.checked os 4 .any (fun w args => (Rows.leanBackSpec.pre enc Tryz.prog Tryz.f4 Rows.leanBackRow.domain false w args ∧ laidMetH Tryz.prog Rows.leanBackRow.laid w) ∧ sizedMet enc Tryz.prog Tryz.f4 (OpenSpec.ofChange Rows.leanBackSpec) false w args)
      (Rows.leanBackSpec.post enc Tryz.prog Tryz.f4 false true false false) := by
  refine returnsInHanded_of_change_and (C := Tryz.checked) (X := fun w _ => laidMetH Tryz.prog Rows.leanBackRow.laid w) (fun _ _ _ hh h => h.of_heap hh) own started (by kernel_rfl) Tryz.func4
    (ChangeSpec.witness_shaped (enc := enc) (C := Tryz.checked) (os := os) (X := fun w _ => laidMetH Tryz.prog Rows.leanBackRow.laid w) false (World.laidAll Tryz.prog os Rows.leanBackRow.laid) #[.agg Kx.zero.cells, .agg M.zero.cells] 8 (World.laidAll_os _ _ _)
      (World.shaped_of_ZipB (by kernel_rfl) (by kernel_rfl)) (by kernel_rfl) (by kernel_rfl) (by kernel_rfl)
      (by rw [MakeChecks.laidMetH_plain _ _ _ (by kernel_rfl)]; exact laidMet_laidAll _ (by kernel_rfl) (by kernel_rfl))) ?_
  intro W base args ds gs before hval0 hW _ _ hL0 _
  have hMet := of_laid hL0
  have hval : ∀ (j : Nat) t v, Tryz.f4.params[j]? = some t → args[j]? = some v → Value.okWide Tryz.prog W .any base t v := hval0
  have hW' := hW
  have hlt := fun x hx => hW'.lt x hx
  obtain ⟨p, q, hA0, hV, rfl, hfz, hnd⟩ := hW
  have hA : DataW.TrodAll enc Tryz.prog W 0 (fun _ => true) true Tryz.f4.params.toList args.toList ds p := hA0
  rw [Tryz.params4] at hA hval
  obtain ⟨v0, vs0, d0, ds0, p0, q0, hargs, rfl, rfl, h0, r0⟩ := trodAll_cons hA
  obtain ⟨v1, vs1, d1, ds1, p1, q1, rfl, rfl, rfl, h1, r1⟩ := trodAll_cons r0
  obtain ⟨rfl, rfl, rfl⟩ := trodAll_nil r1
  obtain rfl : args = #[v0, v1] := by cases args; simp_all
  obtain ⟨rfl, rfl⟩ := trodVars_none hV
  obtain ⟨c, rfl, hf⟩ := by_ctx (hval 0 25 v0 rfl rfl) h0
  obtain ⟨m, rfl, hd, hs, hp⟩ := by_valueP (hval 1 29 v1 rfl rfl) h1
  clear hA0 hval0
  simp only [List.append_nil] at hW' hlt
  refine (walk c m W hf hd hs hp hMet).mono fun e W' ⟨he, hg⟩ => ?_
  subst he
  exact ⟨_, rfl, _, _, _, [], _, [], hW', trodAll_mk1 (shut_bool Tryz.underlying4 _), (trodAll_cons_mk (again (by kernel_rfl) (of_decide_eq_true (by kernel_rfl)) h0 hg fun x hx => hlt x (by first | exact absurd hx (by simp) | simp [hx])) (trodAll_cons_mk (again (by kernel_rfl) (of_decide_eq_true (by kernel_rfl)) h1 hg fun x hx => hlt x (by first | exact absurd hx (by simp) | simp [hx])) trodAll_mk0)), rfl, hg.frame _, fun h => by cases h⟩

theorem over : Rows.LeanBackSaid :=
  OpenClaim.holds_of_wide 4 Tryz.f4 rfl rfl rfl rfl rfl rfl rfl ⟨rfl, rfl, rfl, rfl, rfl⟩ rfl rfl rfl rfl rfl (by kernel_rfl) Tryz.func4 (by kernel_rfl)
    (of_decide_eq_true (by kernel_rfl)) (by unfold Func.isWrapper; first | (rw [if_pos (by decide +kernel)]; kernel_rfl) | (rw [if_neg (by decide +kernel)]; exact ⟨rfl, rfl⟩))
    (fun os started H enc _ => lifted os started H enc)

theorem proved : Rows.LeanBackCardSaid :=
  Claim7.holds_tied_plain_at .later [] _ true _ _
    over (fun _ h => by cases h) (by kernel_rfl) (fun _ h => by cases h) leanBack_row_tie rfl ⟨rfl, rfl⟩ (by kernel_rfl) rfl
    (fun f fn hf hfn => by
      obtain rfl : f = 4 := Option.some.inj ((show Tryz.prog.funcNamed "roadbook/roadbooklaw24.LeanBack" = some 4 by kernel_rfl).symm.trans hf) |>.symm
      obtain rfl : fn = Tryz.f4 := (Option.some.inj (Tryz.func4.symm.trans hfn)).symm
      exact ⟨by kernel_rfl, fun j t ht => by
        rw [Tryz.params4] at ht
        have hm : t ∈ [25, 29] := by simpa using Array.mem_of_getElem? ht
        have hall : ([25, 29].all fun u => !Tryz.prog.wantsStandIn u) = true := by kernel_rfl
        exact (show Tryz.prog.wantsStandIn t = false by simpa using List.all_eq_true.1 hall t hm)⟩)
    (by kernel_rfl)
#print axioms proved
end Go.Proofs.YtfegdblaohhdoaaGreatDoor.leanBack
