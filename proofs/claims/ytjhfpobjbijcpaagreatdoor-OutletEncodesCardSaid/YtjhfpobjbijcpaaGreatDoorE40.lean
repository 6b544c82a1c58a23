/-
  A message's TLVs one by one: the document's opaque, Right, id, hop, update and other. Conditions: the message's lists stand in the world, and aren't long; a router-id has 8 bytes, a next hop 4 or 16; no more bytes are left out than there are.
-/
import Derived.Test.YtjhfpobjbijcpaaGreatDoorE12
import Derived.Test.YtjhfpobjbijcpaaGreatDoorE24
import Derived.Test.YtjhfpobjbijcpaaGreatDoorE36
import Derived.Test.YtjhfpobjbijcpaaGreatDoorE38
import Derived.Test.YtjhfpobjbijcpaaGreatDoorE39
namespace Go.Proofs.YtjhfpobjbijcpaaGreatDoor.L8
open Go.ChangeShapes Go.WideShapes Go.ChangeAt Go.RowKit
open Go.Proofs.YtjhfpobjbijcpaaGreatDoor.Ms
open Go.Proofs.YtjhfpobjbijcpaaGreatDoor.Box
open Go.Proofs.YtjhfpobjbijcpaaGreatDoor.An
open Go.Proofs.YtjhfpobjbijcpaaGreatDoor.Lk (link link_size sh_yes shA rlink_bel)
open Go.Proofs.YtjhfpobjbijcpaaGreatDoor.Nu (layN layN_len of_any text_eq ext_list)
open Go.Proofs.YtjhfpobjbijcpaaGreatDoor.G1 (okF putF)
open Go.Proofs.YtjhfpobjbijcpaaGreatDoor.S1 (okS putS putS_le)
open Go.Proofs.YtjhfpobjbijcpaaGreatDoor.J1
open Go.Proofs.YtjhfpobjbijcpaaGreatDoor.J7 (ex_conv lay_b)
open Go.Proofs.YtjhfpobjbijcpaaGreatDoor.K1
open Go.Proofs.YtjhfpobjbijcpaaGreatDoor.L1
open Go.Proofs.YtjhfpobjbijcpaaGreatDoor.L2
open Go.Proofs.YtjhfpobjbijcpaaGreatDoor.F1 (enc1 ok1 put_ok putO)
open Go.Proofs.YtjhfpobjbijcpaaGreatDoor.F6 (cat_is PutIs to8)
open Go.Proofs.YtjhfpobjbijcpaaGreatDoor.F2 (sl_l)
open Go.Proofs.YtjhfpobjbijcpaaGreatDoor.Hs
open Go.Proofs.YtjhfpobjbijcpaaGreatDoor.Hy
open Go.Proofs.YtjhfpobjbijcpaaGreatDoor.Or (st_yes)
set_option linter.unusedVariables false
set_option maxRecDepth 100000
set_option maxRecDepth 100000
theorem str_eq {a b : ByteArray} (h : a = b) : Ending.returned (.string a) = .returned (.string b) := by rw [h]
theorem okO_is (m : M) : okO m = (decide (m.kind = 14) && (bare m && (decide (11 ≤ m.typ) && (decide (m.typ ≤ 255) && decide (m.data.size ≤ 255))))) := rfl
set_option maxHeartbeats 6400000 in
set_option maxRecDepth 100000 in
theorem ropaque_any (m : M) (w : World) (hm : m.In w) : Calls Tryz.prog 36 #[.agg m.cells] w fun e w' => e = .returned (.bool (okO m)) ∧ Below w.heap.size w w' := by
  have HF := Lib.hid (Fs.new w m hm)
  have P1 := Lib.hid (fun V (h : m.In V) => Kr.rbareM_any m V h)
  have HK := Lib.hid (okO_is m)
  clear hm
  generalize okO m = z at *
  generalize bare m = x1 at *
  by_cases k : m.kind = 14
  rotate_left
  · rw [decide_eq_false k] at HK
    have e14 : (m.kind == 14) = false := by simpa using k
    clear k
    go_enter Tryz.func36, Tryz.ntmps36
    go_upto_region 1 with fail
    generalize w.alloc (.cells m.cells 38) = V at *
    have c0 := HF.out.m.cs.c0
    have c22 := HF.out.m.cs.c22
    have c23 := HF.out.m.cs.c23
    go_wp2_with fail
    go_ret
    exact ⟨bool_eq HK.out.symm, HF.out.bel⟩
  rw [decide_eq_true k] at HK
  cases x1
  · go_enter Tryz.func36, Tryz.ntmps36
    go_upto_region 1 with fail
    generalize w.alloc (.cells m.cells 38) = V at *
    have c0 := HF.out.m.cs.c0
    have c22 := HF.out.m.cs.c22
    have c23 := HF.out.m.cs.c23
    rw [k] at c0
    clear k
    go_wp2_with (first | (refine st_yes (v := .agg (M.cells m)) (by rfl) rfl (run_loadM (x := .tmp 1) rfl rfl HF.out.m) ?_))
    refine (P1.out _ HF.out.i).mono ?_
    rintro r w' ⟨rfl, hb⟩
    have HF := Lib.hid (HF.out.call hb)
    clear hb c0 c22 c23
    have c22 := HF.out.m.cs.c22
    have c23 := HF.out.m.cs.c23
    go_wp2_with fail
    go_ret
    exact ⟨bool_eq HK.out.symm, HF.out.bel⟩
  by_cases h1 : 11 ≤ m.typ
  rotate_left
  · rw [decide_eq_false h1] at HK
    go_enter Tryz.func36, Tryz.ntmps36
    go_upto_region 1 with fail
    generalize w.alloc (.cells m.cells 38) = V at *
    have c0 := HF.out.m.cs.c0
    have c22 := HF.out.m.cs.c22
    have c23 := HF.out.m.cs.c23
    rw [k] at c0
    clear k
    go_wp2_with (first | (refine st_yes (v := .agg (M.cells m)) (by rfl) rfl (run_loadM (x := .tmp 1) rfl rfl HF.out.m) ?_))
    refine (P1.out _ HF.out.i).mono ?_
    rintro r w' ⟨rfl, hb⟩
    have HF := Lib.hid (HF.out.call hb)
    clear hb c0 c22 c23
    have c22 := HF.out.m.cs.c22
    have c23 := HF.out.m.cs.c23
    go_wp2_with fail
    go_ret
    exact ⟨bool_eq HK.out.symm, HF.out.bel⟩
  rw [decide_eq_true h1] at HK
  by_cases h2 : m.typ ≤ 255
  rotate_left
  · rw [decide_eq_false h2] at HK
    go_enter Tryz.func36, Tryz.ntmps36
    go_upto_region 1 with fail
    generalize w.alloc (.cells m.cells 38) = V at *
    have c0 := HF.out.m.cs.c0
    have c22 := HF.out.m.cs.c22
    have c23 := HF.out.m.cs.c23
    rw [k] at c0
    clear k
    go_wp2_with (first | (refine st_yes (v := .agg (M.cells m)) (by rfl) rfl (run_loadM (x := .tmp 1) rfl rfl HF.out.m) ?_))
    refine (P1.out _ HF.out.i).mono ?_
    rintro r w' ⟨rfl, hb⟩
    have HF := Lib.hid (HF.out.call hb)
    clear hb c0 c22 c23
    have c22 := HF.out.m.cs.c22
    have c23 := HF.out.m.cs.c23
    go_wp2_with fail
    go_ret
    exact ⟨bool_eq HK.out.symm, HF.out.bel⟩
  rw [decide_eq_true h2] at HK
  by_cases h3 : m.data.size ≤ 255
  rotate_left
  · rw [decide_eq_false h3] at HK
    have h3 : ¬ (m.data.size : Int) ≤ 255 := by omega
    have e3 : decide ((m.data.size : Int) ≤ 255) = false := decide_eq_false h3
    go_enter Tryz.func36, Tryz.ntmps36
    go_upto_region 1 with fail
    generalize w.alloc (.cells m.cells 38) = V at *
    have c0 := HF.out.m.cs.c0
    have c22 := HF.out.m.cs.c22
    have c23 := HF.out.m.cs.c23
    rw [k] at c0
    clear k
    go_wp2_with (first | (refine st_yes (v := .agg (M.cells m)) (by rfl) rfl (run_loadM (x := .tmp 1) rfl rfl HF.out.m) ?_))
    refine (P1.out _ HF.out.i).mono ?_
    rintro r w' ⟨rfl, hb⟩
    have HF := Lib.hid (HF.out.call hb)
    clear hb c0 c22 c23
    have c22 := HF.out.m.cs.c22
    have c23 := HF.out.m.cs.c23
    go_wp2_with fail
    go_ret
    exact ⟨bool_eq HK.out.symm, HF.out.bel⟩
  rw [decide_eq_true h3] at HK
  have h3 : (m.data.size : Int) ≤ 255 := by omega
  go_enter Tryz.func36, Tryz.ntmps36
  go_upto_region 1 with fail
  generalize w.alloc (.cells m.cells 38) = V at *
  have c0 := HF.out.m.cs.c0
  have c22 := HF.out.m.cs.c22
  have c23 := HF.out.m.cs.c23
  rw [k] at c0
  clear k
  go_wp2_with (first | (refine st_yes (v := .agg (M.cells m)) (by rfl) rfl (run_loadM (x := .tmp 1) rfl rfl HF.out.m) ?_))
  refine (P1.out _ HF.out.i).mono ?_
  rintro r w' ⟨rfl, hb⟩
  have HF := Lib.hid (HF.out.call hb)
  clear hb c0 c22 c23
  have c22 := HF.out.m.cs.c22
  have c23 := HF.out.m.cs.c23
  go_wp2_with fail
  go_ret
  exact ⟨bool_eq HK.out.symm, HF.out.bel⟩
set_option maxHeartbeats 6400000 in
set_option maxRecDepth 100000 in
theorem rright_any (m : M) (w : World) (hm : m.In w) (lb : ∀ x ∈ m.sl, x.1.size ≤ 1099511627776) (hp : m.pfx.size ≤ maxLen) : Calls Tryz.prog 17 #[.agg m.cells] w fun e w' => e = .returned (.bool (okL m)) ∧ Below w.heap.size w w' := by
  have HF := Lib.hid (Fs.new w m hm)
  have P1 := Lib.hid (fun V (h : m.In V) => G2.rright_any m V h lb)
  have P2 := Lib.hid (fun V (h : m.In V) => Jr.rright_any m V h lb hp)
  have P3 := Lib.hid (fun V (h : m.In V) => Kr.rright_any m V h lb hp)
  have P4 := Lib.hid (fun V (h : m.In V) => ropaque_any m V h)
  have HK := Lib.hid (show okL m = (okF m || (okJ m || (okU m || okO m))) from rfl)
  clear lb hm hp
  generalize okL m = z at *
  generalize okF m = x1 at *
  generalize okJ m = x2 at *
  generalize okU m = x3 at *
  generalize okO m = x4 at *
  cases x1
  rotate_left
  · go_enter Tryz.func17, Tryz.ntmps17
    go_upto_region 1 with fail
    generalize w.alloc (.cells m.cells 38) = V at *
    go_wp2_with (first | (refine wpList_loadM (b := w.heap.size) (m := m) rfl _ rfl rfl HF.out.m ?_) | (refine st_yes (v := .agg (M.cells m)) (by rfl) rfl (run_loadM (x := .tmp 1) rfl rfl HF.out.m) ?_))
    refine (P1.out _ HF.out.i).mono ?_
    rintro r w1 ⟨rfl, hb⟩
    have HF := Lib.hid (HF.out.call hb)
    clear hb
    go_wp2_with fail
    go_ret
    exact ⟨bool_eq HK.out.symm, HF.out.bel⟩
  cases x2
  rotate_left
  · go_enter Tryz.func17, Tryz.ntmps17
    go_upto_region 1 with fail
    generalize w.alloc (.cells m.cells 38) = V at *
    go_wp2_with (first | (refine wpList_loadM (b := w.heap.size) (m := m) rfl _ rfl rfl HF.out.m ?_) | (refine st_yes (v := .agg (M.cells m)) (by rfl) rfl (run_loadM (x := .tmp 1) rfl rfl HF.out.m) ?_))
    refine (P1.out _ HF.out.i).mono ?_
    rintro r w1 ⟨rfl, hb⟩
    have HF := Lib.hid (HF.out.call hb)
    clear hb
    go_wp2_with (first | (refine wpList_loadM (b := w.heap.size) (m := m) rfl _ rfl rfl HF.out.m ?_) | (refine st_yes (v := .agg (M.cells m)) (by rfl) rfl (run_loadM (x := .tmp 1) rfl rfl HF.out.m) ?_))
    refine (P2.out _ HF.out.i).mono ?_
    rintro r w2 ⟨rfl, hb⟩
    have HF := Lib.hid (HF.out.call hb)
    clear hb
    go_wp2_with fail
    go_ret
    exact ⟨bool_eq HK.out.symm, HF.out.bel⟩
  cases x3
  rotate_left
  · go_enter Tryz.func17, Tryz.ntmps17
    go_upto_region 1 with fail
    generalize w.alloc (.cells m.cells 38) = V at *
    go_wp2_with (first | (refine wpList_loadM (b := w.heap.size) (m := m) rfl _ rfl rfl HF.out.m ?_) | (refine st_yes (v := .agg (M.cells m)) (by rfl) rfl (run_loadM (x := .tmp 1) rfl rfl HF.out.m) ?_))
    refine (P1.out _ HF.out.i).mono ?_
    rintro r w1 ⟨rfl, hb⟩
    have HF := Lib.hid (HF.out.call hb)
    clear hb
    go_wp2_with (first | (refine wpList_loadM (b := w.heap.size) (m := m) rfl _ rfl rfl HF.out.m ?_) | (refine st_yes (v := .agg (M.cells m)) (by rfl) rfl (run_loadM (x := .tmp 1) rfl rfl HF.out.m) ?_))
    refine (P2.out _ HF.out.i).mono ?_
    rintro r w2 ⟨rfl, hb⟩
    have HF := Lib.hid (HF.out.call hb)
    clear hb
    go_wp2_with (first | (refine wpList_loadM (b := w.heap.size) (m := m) rfl _ rfl rfl HF.out.m ?_) | (refine st_yes (v := .agg (M.cells m)) (by rfl) rfl (run_loadM (x := .tmp 1) rfl rfl HF.out.m) ?_))
    refine (P3.out _ HF.out.i).mono ?_
    rintro r w3 ⟨rfl, hb⟩
    have HF := Lib.hid (HF.out.call hb)
    clear hb
    go_wp2_with fail
    go_ret
    exact ⟨bool_eq HK.out.symm, HF.out.bel⟩
  go_enter Tryz.func17, Tryz.ntmps17
  go_upto_region 1 with fail
  generalize w.alloc (.cells m.cells 38) = V at *
  go_wp2_with (first | (refine wpList_loadM (b := w.heap.size) (m := m) rfl _ rfl rfl HF.out.m ?_) | (refine st_yes (v := .agg (M.cells m)) (by rfl) rfl (run_loadM (x := .tmp 1) rfl rfl HF.out.m) ?_))
  refine (P1.out _ HF.out.i).mono ?_
  rintro r w1 ⟨rfl, hb⟩
  have HF := Lib.hid (HF.out.call hb)
  clear hb
  go_wp2_with (first | (refine wpList_loadM (b := w.heap.size) (m := m) rfl _ rfl rfl HF.out.m ?_) | (refine st_yes (v := .agg (M.cells m)) (by rfl) rfl (run_loadM (x := .tmp 1) rfl rfl HF.out.m) ?_))
  refine (P2.out _ HF.out.i).mono ?_
  rintro r w2 ⟨rfl, hb⟩
  have HF := Lib.hid (HF.out.call hb)
  clear hb
  go_wp2_with (first | (refine wpList_loadM (b := w.heap.size) (m := m) rfl _ rfl rfl HF.out.m ?_) | (refine st_yes (v := .agg (M.cells m)) (by rfl) rfl (run_loadM (x := .tmp 1) rfl rfl HF.out.m) ?_))
  refine (P3.out _ HF.out.i).mono ?_
  rintro r w3 ⟨rfl, hb⟩
  have HF := Lib.hid (HF.out.call hb)
  clear hb
  go_wp2_with (first | (refine wpList_loadM (b := w.heap.size) (m := m) rfl _ rfl rfl HF.out.m ?_) | (refine st_yes (v := .agg (M.cells m)) (by rfl) rfl (run_loadM (x := .tmp 1) rfl rfl HF.out.m) ?_))
  refine (P4.out _ HF.out.i).mono ?_
  rintro r w4 ⟨rfl, hb⟩
  have HF := Lib.hid (HF.out.call hb)
  clear hb
  go_wp2_with fail
  go_ret
  exact ⟨bool_eq HK.out.symm, HF.out.bel⟩
theorem rid_any (a : ByteArray) (w : World) (h : a.size = 8) : Calls Tryz.prog 39 #[.string a] w fun e w' => e = .returned (.string ⟨(enc1 (idD a, 6)).toArray⟩) ∧ Below w.heap.size w w' := by
  have hc := cat_is ⟨#[0, 0]⟩ a (idD a) (by decide) (by omega) (text_eq (by simp [ByteArray.data_append, idD]))
  obtain ⟨ho, hz⟩ := L2.id_ok h
  have hp := (put_ok ho (show ¬ (6 : Int) = 0 by decide)).2
  have P2 := Lib.hid (fun V => F6.rput_any 6 (idD a) V (by omega))
  unfold PutIs at P2
  rw [show putO 6 (idD a) = _ from hp] at P2
  clear h hp ho hz
  generalize (⟨(enc1 (idD a, 6)).toArray⟩ : ByteArray) = u at *
  generalize idD a = d at *
  generalize F1.putB 6 d = y at *
  go_enter Tryz.func39, Tryz.ntmps39
  go_wp2_with fail
  refine (P2.out _).mono ?_
  rintro r w2 ⟨rfl, hb⟩
  go_wp2
  go_ret
  exact ⟨rfl, hb⟩
theorem rhop_any (a : ByteArray) (w : World) (h : a.size = 4 ∨ a.size = 16) : Calls Tryz.prog 40 #[.string a] w fun e w' => e = .returned (.string ⟨(enc1 (hopD a, 7)).toArray⟩) ∧ Below w.heap.size w w' := by
  have hzd := (L1.hop_size h).2
  have ho := L2.hop_ok h
  have hp := (put_ok ho (show ¬ (7 : Int) = 0 by decide)).2
  have P1 := Lib.hid (fun V => rlink_bel a V)
  have P2 := Lib.hid (fun V => F6.rput_any 7 (hopD a) V (by omega))
  unfold PutIs at P2
  rw [show putO 7 (hopD a) = _ from hp] at P2
  have hha : a.size ≤ 16 := by omega
  have c2 := cat_is ⟨#[2, 0]⟩ a _ (by decide) (by omega) rfl
  have HD := Lib.hid (show hopD a = ⟨(layN (hopE a) 1 ++ (0 :: (hopS a).data.toList)).toArray⟩ from rfl)
  clear ho hp
  generalize (⟨(enc1 (hopD a, 7)).toArray⟩ : ByteArray) = u at *
  by_cases h4 : a.size = 4
  · have hl : link a = false := Lk.link_no (by omega)
    have e1 : hopE a = 1 ∧ hopS a = a := by unfold hopE hopS; rw [if_pos h4, if_pos h4]; exact ⟨rfl, rfl⟩
    rw [e1.1, e1.2] at HD
    have c1 := cat_is ⟨#[1, 0]⟩ a (hopD a) (by decide) (by omega) (text_eq (by rw [HD.out, lay_b (by decide) (by decide)]; simp [ByteArray.data_append]))
    have e4 : ((a.size : Int) == 4) = true := by simp; omega
    rw [hl] at P1
    clear h hzd hha HD hl e1 h4
    generalize hopD a = d at *
    generalize F1.putB 7 d = y at *
    generalize (⟨#[2, 0]⟩ : ByteArray) ++ a = d2 at *
    go_enter Tryz.func40, Tryz.ntmps40
    go_wp2_with fail
    refine (P1.out _).mono ?_
    rintro r w1 ⟨rfl, hb⟩
    have HB := Lib.hid hb
    clear hb
    go_wp2_with fail
    refine (P2.out _).mono ?_
    rintro r w2 ⟨rfl, hb⟩
    have HB := Lib.hid (bcall HB.out hb)
    clear hb
    go_wp2
    go_ret
    exact ⟨rfl, HB.out⟩
  have e4 : ((a.size : Int) == 4) = false := by simp; omega
  cases hl : link a
  · have e1 : hopE a = 2 ∧ hopS a = a := by unfold hopE hopS; rw [if_neg h4, if_neg h4, hl]; exact ⟨rfl, rfl⟩
    rw [e1.1, e1.2] at HD
    have e2 : (⟨#[2, 0]⟩ : ByteArray) ++ a = hopD a := text_eq (by rw [HD.out, lay_b (by decide) (by decide)]; simp [ByteArray.data_append])
    rw [e2] at c2
    rw [hl] at P1
    clear h hzd hha HD hl e1 h4 e2
    generalize hopD a = d at *
    generalize F1.putB 7 d = y at *
    go_enter Tryz.func40, Tryz.ntmps40
    go_wp2_with fail
    refine (P1.out _).mono ?_
    rintro r w1 ⟨rfl, hb⟩
    have HB := Lib.hid hb
    clear hb
    go_wp2_with fail
    refine (P2.out _).mono ?_
    rintro r w2 ⟨rfl, hb⟩
    have HB := Lib.hid (bcall HB.out hb)
    clear hb
    go_wp2
    go_ret
    exact ⟨rfl, HB.out⟩
  have e1 : hopE a = 3 ∧ hopS a = shA a := by unfold hopE hopS; rw [if_neg h4, if_neg h4, hl]; exact ⟨rfl, rfl⟩
  rw [e1.1, e1.2, sh_yes hl] at HD
  have h16 := link_size hl
  have cut := sl_l a 8 8 a.size rfl (by omega) rfl
  have hz8 : (a.extract 8 a.size).size ≤ 16 := by simp; omega
  have c3 := cat_is ⟨#[3, 0]⟩ (a.extract 8 a.size) (hopD a) (by decide) (by omega) (text_eq (by rw [HD.out, lay_b (by decide) (by decide)]; simp [ByteArray.data_append]))
  rw [hl] at P1
  clear h hzd hha HD hl e1 h4 h16 hz8
  generalize hopD a = d at *
  generalize F1.putB 7 d = y at *
  generalize a.extract 8 a.size = sa at *
  generalize (⟨#[2, 0]⟩ : ByteArray) ++ a = d2 at *
  go_enter Tryz.func40, Tryz.ntmps40
  go_wp2_with fail
  refine (P1.out _).mono ?_
  rintro r w1 ⟨rfl, hb⟩
  have HB := Lib.hid hb
  clear hb
  go_wp2_with fail
  refine (P2.out _).mono ?_
  rintro r w2 ⟨rfl, hb⟩
  have HB := Lib.hid (bcall HB.out hb)
  clear hb
  go_wp2
  go_ret
  exact ⟨rfl, HB.out⟩
set_option maxHeartbeats 6400000 in
set_option maxRecDepth 100000 in
theorem rother_any (m : M) (w : World) (hm : m.In w) (ln : m.sl.length ≤ 2000) (lb : ∀ x ∈ m.sl, x.1.size ≤ 1099511627776) (hp : m.pfx.size ≤ maxLen) (ho : okL m = true) (h11 : ¬ m.kind = 11) : Calls Tryz.prog 37 #[.agg m.cells] w fun e w' => e = .returned (.string ⟨(enc1 (othE m)).toArray⟩) ∧ Below w.heap.size w w' := by
  have HF := Lib.hid (Fs.new w m hm)
  have P1 := Lib.hid (fun V (h : m.In V) => G7.rput_any m V h ln lb)
  have P2 := Lib.hid (fun V (h : m.In V) => J7.rput_any m V h ln lb hp)
  rcases ok_not ho h11 with hF | ⟨nF, hJ⟩ | ⟨nF, nJ, hO⟩
  · have HK := Lib.hid (show (⟨(enc1 (othE m)).toArray⟩ : ByteArray) = putF m by unfold othE; rw [if_pos hF]; exact text_eq (G1.putF_ok hF).1.symm)
    rw [hF] at P1
    clear hF ho h11 ln lb hp hm
    generalize (⟨(enc1 (othE m)).toArray⟩ : ByteArray) = z at *
    generalize putF m = u at *
    go_enter Tryz.func37, Tryz.ntmps37
    go_upto_region 1 with fail
    generalize w.alloc (.cells m.cells 38) = V at *
    go_wp2_with (first | (refine wpList_loadM (b := w.heap.size) (m := m) rfl _ rfl rfl HF.out.m ?_))
    refine (P1.out _ HF.out.i).mono ?_
    rintro r w1 ⟨rfl, hb⟩
    have HF := Lib.hid (HF.out.call hb)
    clear hb
    go_wp2
    go_ret
    exact ⟨str_eq HK.out.symm, HF.out.bel⟩
  · have HK := Lib.hid (show (⟨(enc1 (othE m)).toArray⟩ : ByteArray) = putJ m by unfold othE; rw [if_neg (by rw [nF]; decide), if_pos hJ]; exact text_eq (J1.putJ_ok hJ).1.symm)
    rw [nF] at P1
    rw [hJ] at P2
    clear hJ nF ho h11 ln lb hp hm
    generalize (⟨(enc1 (othE m)).toArray⟩ : ByteArray) = z at *
    generalize putF m = uf at *
    generalize putJ m = u at *
    go_enter Tryz.func37, Tryz.ntmps37
    go_upto_region 1 with fail
    generalize w.alloc (.cells m.cells 38) = V at *
    go_wp2_with (first | (refine wpList_loadM (b := w.heap.size) (m := m) rfl _ rfl rfl HF.out.m ?_))
    refine (P1.out _ HF.out.i).mono ?_
    rintro r w1 ⟨rfl, hb⟩
    have HF := Lib.hid (HF.out.call hb)
    clear hb
    go_wp2_with (first | (refine wpList_loadM (b := w.heap.size) (m := m) rfl _ rfl rfl HF.out.m ?_))
    refine (P2.out _ HF.out.i).mono ?_
    rintro r w2 ⟨rfl, hb⟩
    have HF := Lib.hid (HF.out.call hb)
    clear hb
    go_wp2
    go_ret
    exact ⟨str_eq HK.out.symm, HF.out.bel⟩
  · obtain ⟨k, _, o3, o4, o5⟩ := o_parts hO
    have ho1 : ok1 (m.data, m.typ) := ⟨by show 0 ≤ m.typ; omega, o4, o5, fun h0 => absurd h0 (by show ¬ m.typ = 0; omega)⟩
    have hpu := (put_ok ho1 (by show ¬ m.typ = 0; omega)).2
    have HK := Lib.hid (show (⟨(enc1 (othE m)).toArray⟩ : ByteArray) = putO m.typ m.data by unfold othE; rw [if_neg (by rw [nF]; decide), if_neg (by rw [nJ]; decide)]; exact hpu.symm)
    have P3 := Lib.hid (fun V => F6.rput_any m.typ m.data V (by omega))
    unfold PutIs at P3
    rw [nF] at P1
    rw [nJ] at P2
    clear hO nF nJ ho h11 ln lb hp hm ho1 hpu o3 o4 o5 k
    generalize (⟨(enc1 (othE m)).toArray⟩ : ByteArray) = z at *
    generalize putF m = uf at *
    generalize putJ m = uj at *
    generalize putO m.typ m.data = u at *
    generalize F1.putB m.typ m.data = y at *
    go_enter Tryz.func37, Tryz.ntmps37
    go_upto_region 1 with fail
    generalize w.alloc (.cells m.cells 38) = V at *
    go_wp2_with (first | (refine wpList_loadM (b := w.heap.size) (m := m) rfl _ rfl rfl HF.out.m ?_))
    refine (P1.out _ HF.out.i).mono ?_
    rintro r w1 ⟨rfl, hb⟩
    have HF := Lib.hid (HF.out.call hb)
    clear hb
    go_wp2_with (first | (refine wpList_loadM (b := w.heap.size) (m := m) rfl _ rfl rfl HF.out.m ?_))
    refine (P2.out _ HF.out.i).mono ?_
    rintro r w2 ⟨rfl, hb⟩
    have HF := Lib.hid (HF.out.call hb)
    clear hb
    have c22 := HF.out.m.cs.c22
    have c23 := HF.out.m.cs.c23
    go_wp2_with fail
    refine (P3.out _).mono ?_
    rintro r w' ⟨rfl, hb⟩
    have HF := Lib.hid (HF.out.call hb)
    clear hb c22 c23
    go_wp2
    go_ret
    exact ⟨str_eq HK.out.symm, HF.out.bel⟩
theorem build_four (a b c d : Int) (w : World) : (Instr.buildSlice 63 4 #[(0, .int .u8 a), (1, .int .u8 b), (2, .int .u8 c), (3, .int .u8 d)]).run Tryz.prog w = .ok (.slice (some ⟨w.heap.size, 0, none⟩) 4 4) (w.alloc (.cells #[.int .u8 a, .int .u8 b, .int .u8 c, .int .u8 d] 5)) := by
  kernel_rfl
theorem ex_bs4 {o : Oper} {ρ : Operand → Value} {x y z u : Operand} {a b c d : Int} {w : World} (ho : o.op = .buildSlice 63 4 #[(0, x), (1, y), (2, z), (3, u)]) (hx : ρ x = .int .u8 a) (hy : ρ y = .int .u8 b) (hz : ρ z = .int .u8 c) (hu : ρ u = .int .u8 d) :
    (execOp ρ o).run Tryz.prog w = .ok (.value (.slice (some ⟨w.heap.size, 0, none⟩) 4 4)) (w.alloc (.cells #[.int .u8 a, .int .u8 b, .int .u8 c, .int .u8 d] 5)) := by
  have e : ((#[(0, x), (1, y), (2, z), (3, u)] : Array (Nat × Operand)).map fun (i, x) => (i, ρ x)) = #[(0, .int .u8 a), (1, .int .u8 b), (2, .int .u8 c), (3, .int .u8 d)] := by simp [hx, hy, hz, hu]
  unfold execOp
  simp only [ho, Sem.run_bind, e, build_four, Result.andThen_ok, Sem.run_pure]
theorem conv_row4 (a b c d : UInt8) (w : World) (g : Nat) (hB : Bk.Bk 5 w g #[.int .u8 (a.toNat : Int), .int .u8 (b.toNat : Int), .int .u8 (c.toNat : Int), .int .u8 (d.toNat : Int)]) : (convert 63 9 (.slice (some ⟨g, 0, none⟩) 4 4)).run Tryz.prog w = .ok (.string ⟨#[a, b, c, d]⟩) w := by
  refine run_convert_bytes_back _ 63 9 5 ⟨g, 0, none⟩ 4 [a, b, c, d] Tryz.underlying63 Tryz.underlying5 Tryz.underlying9 fun j hj => ?_
  rw [Sx.add_at, Nat.zero_add]
  match j, hj with
  | 0, _ => exact hB.cell 0 _ rfl
  | 1, _ => exact hB.cell 1 _ rfl
  | 2, _ => exact hB.cell 2 _ rfl
  | 3, _ => exact hB.cell 3 _ rfl
theorem lay_z (v : Int) (n : Nat) : (⟨(layN v n).toArray⟩ : ByteArray).size ≤ n := by rw [mk_size]; exact layN_len v n
set_option maxHeartbeats 25600000 in
set_option maxRecDepth 100000 in
theorem rupdate_any (m : M) (n : Nat) (w : World) (hm : m.In w) (ln : m.sl.length ≤ 2000) (lb : ∀ x ∈ m.sl, x.1.size ≤ 1099511627776) (h : okU m = true) (hn : n ≤ countN m.ae m.plen) :
    Calls Tryz.prog 44 #[.agg m.cells, .int .i64 n] w fun e w' => e = .returned (.string ⟨(enc1 (updD m n, 8)).toArray⟩) ∧ Below w.heap.size w w' := by
  have HF := Lib.hid (Fs.new w m hm)
  have o := (oku_iff m).1 h
  obtain ⟨a0, a1, p0, p1⟩ := len_range (in_cases o.pfx).1
  have hcs := cut_size o.pfx
  have hct := (count_le (in_cases o.pfx).1).1
  have hi := o.pfx
  have P1 := Lib.hid (fun V (y : m.In V) => S4.rput_any m.sa m.sc m.sl V y.s ln lb)
  rw [o.subs] at P1
  have P2 := Lib.hid (fun V (y : m.In V) => J2.rbytes_any m V y hi)
  have O1 := Lib.hid (fun V => of_any m.interval 2 2 rfl (by omega) (by omega) V)
  have O2 := Lib.hid (fun V => of_any m.seq 2 2 rfl (by omega) (by omega) V)
  have O3 := Lib.hid (fun V => of_any m.metric 2 2 rfl (by omega) (by omega) V)
  have hpu := upd_ok1 h hn
  have hp := (put_ok hpu (by show ¬ (8 : Int) = 0; decide)).2
  have hzu := (upd_size h hn).2
  have P3 := Lib.hid (fun V => F6.rput_any 8 (updD m n) V (by omega))
  unfold PutIs at P3
  rw [show putO 8 (updD m n) = _ from hp] at P3
  have hsl := putS_le m.sl
  have hq : (⟨((cutP m.ae m.pfx m.plen).data.toList.drop n).toArray⟩ : ByteArray) = (cutP m.ae m.pfx m.plen).extract n (cutP m.ae m.pfx m.plen).size := text_eq (by rw [ext_to])
  have cut := sl_l (cutP m.ae m.pfx m.plen) (n : Nat) n _ rfl (by omega) rfl
  have hqz : ((cutP m.ae m.pfx m.plen).extract n (cutP m.ae m.pfx m.plen).size).size ≤ 16 := by rw [← hq, mk_size, List.length_drop, J1.size_list]; omega
  have f0 : 0 ≤ flB m ∧ flB m ≤ 255 := by unfold flB; split <;> omega
  have v0 := to8 m.ae a0 (by omega)
  have v1 := to8 (flB m) f0.1 f0.2
  have v2 := to8 m.plen p0 (by omega)
  have v3 := to8 (n : Nat) (by omega) (by omega)
  have z1 := lay_z m.interval 2
  have z2 := lay_z m.seq 2
  have z3 := lay_z m.metric 2
  have HD := Lib.hid (show (⟨#[UInt8.ofNat m.ae.toNat, UInt8.ofNat (flB m).toNat, UInt8.ofNat m.plen.toNat, UInt8.ofNat ((n : Int)).toNat]⟩ : ByteArray) ++ ⟨(layN m.interval 2).toArray⟩ ++ ⟨(layN m.seq 2).toArray⟩ ++ ⟨(layN m.metric 2).toArray⟩ ++ (cutP m.ae m.pfx m.plen).extract n (cutP m.ae m.pfx m.plen).size ++ putS m.sl = updD m n from text_eq (by
    rw [← hq]
    unfold updD updL
    rw [lay_b a0 (by omega), lay_b f0.1 (by omega), lay_b p0 (by omega), lay_b (v := (n : Int)) (by omega) (by omega)]
    simp [ByteArray.data_append]))
  have HFL := Lib.hid (show flB m = if m.ae = 0 then 0 else 128 from rfl)
  clear o lb ln hpu hp hzu hq h hcs hct a0 a1 p0 p1 f0 hi hn hm
  generalize (⟨(enc1 (updD m n, 8)).toArray⟩ : ByteArray) = u at *
  generalize updD m n = d at *
  generalize (cutP m.ae m.pfx m.plen).extract n (cutP m.ae m.pfx m.plen).size = q3 at *
  generalize putS m.sl = sb at *
  generalize cutP m.ae m.pfx m.plen = cp at *
  generalize F1.putB 8 d = yb at *
  generalize UInt8.ofNat m.ae.toNat = b0 at *
  generalize UInt8.ofNat (flB m).toNat = b1 at *
  generalize UInt8.ofNat m.plen.toNat = b2 at *
  generalize UInt8.ofNat ((n : Int)).toNat = b3 at *
  generalize (⟨(layN m.interval 2).toArray⟩ : ByteArray) = t1 at *
  generalize (⟨(layN m.seq 2).toArray⟩ : ByteArray) = t2 at *
  generalize (⟨(layN m.metric 2).toArray⟩ : ByteArray) = t3 at *
  have cv := Lib.hid (conv_row4 b0 b1 b2 b3)
  have hc4 : (⟨#[b0, b1, b2, b3]⟩ : ByteArray).size = 4 := rfl
  generalize (⟨#[b0, b1, b2, b3]⟩ : ByteArray) = t0 at *
  have cat1 := cat_is t0 t1 _ (by omega) (by omega) rfl
  have y1 : (t0 ++ t1).size ≤ 6 := by rw [ByteArray.size_append]; omega
  generalize t0 ++ t1 = u1 at *
  have cat2 := cat_is u1 t2 _ (by omega) (by omega) rfl
  have y2 : (u1 ++ t2).size ≤ 8 := by rw [ByteArray.size_append]; omega
  generalize u1 ++ t2 = u2 at *
  have cat3 := cat_is u2 t3 _ (by omega) (by omega) rfl
  have y3 : (u2 ++ t3).size ≤ 10 := by rw [ByteArray.size_append]; omega
  generalize u2 ++ t3 = u3 at *
  have cat4 := cat_is u3 q3 _ (by omega) (by omega) rfl
  have y4 : (u3 ++ q3).size ≤ 26 := by rw [ByteArray.size_append]; omega
  generalize u3 ++ q3 = u4 at *
  have cat5 := cat_is u4 sb _ (by omega) (by omega) HD.out
  clear hsl hqz z1 z2 z3 HD hc4 y1 y2 y3 y4
  generalize flB m = fl at *
  by_cases h0 : m.ae = 0
  · rw [if_pos h0] at HFL
    obtain rfl := HFL.out
    have e0 : (m.ae == 0) = true := by simpa using h0
    clear HFL h0
    go_enter Tryz.func44, Tryz.ntmps44
    go_upto_region 1 with fail
    generalize w.alloc (.cells m.cells 38) = V at *
    have c5 := HF.out.m.cs.c5
    have c24 := HF.out.m.cs.c24
    go_wp2_with fail
    refine (P1.out _ HF.out.i).mono ?_
    rintro r V1 ⟨rfl, hb⟩
    have HF := Lib.hid (HF.out.call hb)
    clear hb c5 c24 e0 P1
    go_upto_region 5 with fail
    refine wp_region_held_drew (S := fun W => Fs w W w.heap.size m) (by kernel_rfl) HF.out.drew (fun hS => ?_)
    clear HF
    generalize V1.drew = X0 at *
    refine H.tk (i := 0) (v := ?v0x1y) ?h0x1y hS ?_
    case h0x1y => (intro w hw; go_simp; first | done | (with_reducible rfl))
    try simp only [Act.put, List.setIfInBounds_toArray, List.set_cons_zero, List.set_cons_succ]
    refine H.tk (i := 1) (v := ?v1x2y) ?h1x2y hS ?_
    case h1x2y => (intro w hw; have c := (hw.m).cs.c5; go_simp; first | done | (with_reducible rfl))
    try simp only [Act.put, List.setIfInBounds_toArray, List.set_cons_zero, List.set_cons_succ]
    refine H.tk (i := 2) (v := ?v2x3y) ?h2x3y hS ?_
    case h2x3y => (intro w hw; go_simp; first | done | (with_reducible rfl))
    try simp only [Act.put, List.setIfInBounds_toArray, List.set_cons_zero, List.set_cons_succ]
    refine H.tk (i := 3) (v := ?v3x4y) ?h3x4y hS ?_
    case h3x4y => (intro w hw; go_simp; first | done | (with_reducible rfl))
    try simp only [Act.put, List.setIfInBounds_toArray, List.set_cons_zero, List.set_cons_succ]
    refine H.tk (i := 4) (v := ?v4x5y) ?h4x5y hS ?_
    case h4x5y => (intro w hw; go_simp; first | done | (with_reducible rfl))
    try simp only [Act.put, List.setIfInBounds_toArray, List.set_cons_zero, List.set_cons_succ]
    refine H.tk (i := 5) (v := ?v5x6y) ?h5x6y hS ?_
    case h5x6y => (intro w hw; go_simp; first | done | (with_reducible rfl))
    try simp only [Act.put, List.setIfInBounds_toArray, List.set_cons_zero, List.set_cons_succ]
    refine H.tk (i := 6) (v := ?v6x7y) ?h6x7y hS ?_
    case h6x7y => (intro w hw; have c := (hw.m).cs.c7; go_simp; first | done | (with_reducible rfl))
    try simp only [Act.put, List.setIfInBounds_toArray, List.set_cons_zero, List.set_cons_succ]
    refine H.tk (i := 7) (v := ?v7x8y) ?h7x8y hS ?_
    case h7x8y => (intro w hw; go_simp; first | done | (with_reducible rfl))
    try simp only [Act.put, List.setIfInBounds_toArray, List.set_cons_zero, List.set_cons_succ]
    refine H.tk (i := 8) (v := ?v8x9y) ?h8x9y hS ?_
    case h8x9y => (intro w hw; go_simp; first | done | (with_reducible rfl))
    try simp only [Act.put, List.setIfInBounds_toArray, List.set_cons_zero, List.set_cons_succ]
    refine H.tk (i := 9) (v := ?v9x10y) ?h9x10y hS ?_
    case h9x10y => (intro w hw; go_simp; first | done | (with_reducible rfl))
    try simp only [Act.put, List.setIfInBounds_toArray, List.set_cons_zero, List.set_cons_succ]
    refine H.tk (i := 12) (v := ?v12x11y) ?h12x11y hS ?_
    case h12x11y => (intro w hw; go_simp; first | done | (with_reducible rfl))
    try simp only [Act.put, List.setIfInBounds_toArray, List.set_cons_zero, List.set_cons_succ]
    refine H.tk (i := 13) (v := ?v13x12y) ?h13x12y hS ?_
    case h13x12y => (intro w hw; have c := (hw.m).cs.c14; go_simp; first | done | (with_reducible rfl))
    try simp only [Act.put, List.setIfInBounds_toArray, List.set_cons_zero, List.set_cons_succ]
    refine H.tk (i := 16) (v := ?v16x13y) ?h16x13y hS ?_
    case h16x13y => (intro w hw; go_simp; first | done | (with_reducible rfl))
    try simp only [Act.put, List.setIfInBounds_toArray, List.set_cons_zero, List.set_cons_succ]
    refine H.tk (i := 17) (v := ?v17x14y) ?h17x14y hS ?_
    case h17x14y => (intro w hw; have c := (hw.m).cs.c12; go_simp; first | done | (with_reducible rfl))
    try simp only [Act.put, List.setIfInBounds_toArray, List.set_cons_zero, List.set_cons_succ]
    refine H.tk (i := 20) (v := ?v20x15y) ?h20x15y hS ?_
    case h20x15y => (intro w hw; go_simp; first | done | (with_reducible rfl))
    try simp only [Act.put, List.setIfInBounds_toArray, List.set_cons_zero, List.set_cons_succ]
    refine H.tk (i := 21) (v := ?v21x16y) ?h21x16y hS ?_
    case h21x16y => (intro w hw; have c := (hw.m).cs.c10; go_simp; first | done | (with_reducible rfl))
    try simp only [Act.put, List.setIfInBounds_toArray, List.set_cons_zero, List.set_cons_succ]
    refine H.two (i := 10) (j := 14) (by simp only [List.getElem?_toArray, List.getElem?_cons_succ, List.getElem?_cons_zero]; rfl) (by kernel_rfl) (by simp only [List.getElem?_toArray, List.getElem?_cons_succ, List.getElem?_cons_zero]; rfl) (by kernel_rfl) (by kernel_rfl) (fun K hK => ?wa17y) (fun K hK => ?wb17y)
    case wa17y =>
      refine wp_valW rfl (ex_bs4 (a := (b0.toNat : Int)) (b := (b1.toNat : Int)) (c := (b2.toNat : Int)) (d := (b3.toNat : Int)) rfl rfl rfl rfl rfl) ?_
      have hS' := hS.call (balloc (Below.refl _ X0) (.cells #[.int .u8 (b0.toNat : Int), .int .u8 (b1.toNat : Int), .int .u8 (b2.toNat : Int), .int .u8 (b3.toNat : Int)] 5))
      refine hK.out _ _ hS' ?_
      have HB := Lib.hid (Bk.Bk.new 5 X0 #[.int .u8 (b0.toNat : Int), .int .u8 (b1.toNat : Int), .int .u8 (b2.toNat : Int), .int .u8 (b3.toNat : Int)])
      clear hK K hS
      have hS := hS'
      clear hS'
      generalize X0.alloc (.cells #[.int .u8 (b0.toNat : Int), .int .u8 (b1.toNat : Int), .int .u8 (b2.toNat : Int), .int .u8 (b3.toNat : Int)] 5) = X1 at *
      generalize X0.heap.size = g1 at *
      try simp only [Act.put, List.setIfInBounds_toArray, List.set_cons_zero, List.set_cons_succ]
      refine H.two (i := 11) (j := 14) (by simp only [List.getElem?_toArray, List.getElem?_cons_succ, List.getElem?_cons_zero]; rfl) (by kernel_rfl) (by simp only [List.getElem?_toArray, List.getElem?_cons_succ, List.getElem?_cons_zero]; rfl) (by kernel_rfl) (by kernel_rfl) (fun K hK => ?wa18y) (fun K hK => ?wb18y)
      case wa18y =>
        refine wp_valW rfl (ex_conv (x := .tmp 30) (v := .slice (some ⟨g1, 0, none⟩) 4 4) rfl rfl (cv.out _ _ HB.out)) ?_
        refine hK.out _ _ hS ?_
        clear hK K
        try simp only [Act.put, List.setIfInBounds_toArray, List.set_cons_zero, List.set_cons_succ]
        refine H.one (i := 14) (by simp only [List.getElem?_toArray, List.getElem?_cons_succ, List.getElem?_cons_zero]; rfl) (by kernel_rfl) (by kernel_rfl) (fun K hK => ?_)
        go_simp
        refine (O1.out _).mono ?_
        rintro e X2 ⟨rfl, hb⟩
        have hS' := hS.call hb
        have HB := Lib.hid (HB.out.below hb)
        refine hK.out _ _ hS' ?_
        clear hK K hb hS
        have hS := hS'
        clear hS'
        try simp only [Act.put, List.setIfInBounds_toArray, List.set_cons_zero, List.set_cons_succ]
        refine H.tk (i := 15) (v := ?v15x19y) ?h15x19y hS ?_
        case h15x19y => (intro w hw; go_simp; first | done | (with_reducible rfl))
        try simp only [Act.put, List.setIfInBounds_toArray, List.set_cons_zero, List.set_cons_succ]
        refine H.one (i := 18) (by simp only [List.getElem?_toArray, List.getElem?_cons_succ, List.getElem?_cons_zero]; rfl) (by kernel_rfl) (by kernel_rfl) (fun K hK => ?_)
        go_simp
        refine (O2.out _).mono ?_
        rintro e X3 ⟨rfl, hb⟩
        have hS' := hS.call hb
        have HB := Lib.hid (HB.out.below hb)
        refine hK.out _ _ hS' ?_
        clear hK K hb hS
        have hS := hS'
        clear hS'
        try simp only [Act.put, List.setIfInBounds_toArray, List.set_cons_zero, List.set_cons_succ]
        refine H.tk (i := 19) (v := ?v19x20y) ?h19x20y hS ?_
        case h19x20y => (intro w hw; go_simp; first | done | (with_reducible rfl))
        try simp only [Act.put, List.setIfInBounds_toArray, List.set_cons_zero, List.set_cons_succ]
        refine H.one (i := 22) (by simp only [List.getElem?_toArray, List.getElem?_cons_succ, List.getElem?_cons_zero]; rfl) (by kernel_rfl) (by kernel_rfl) (fun K hK => ?_)
        go_simp
        refine (O3.out _).mono ?_
        rintro e X4 ⟨rfl, hb⟩
        have hS' := hS.call hb
        have HB := Lib.hid (HB.out.below hb)
        refine hK.out _ _ hS' ?_
        clear hK K hb hS
        have hS := hS'
        clear hS'
        try simp only [Act.put, List.setIfInBounds_toArray, List.set_cons_zero, List.set_cons_succ]
        refine H.tk (i := 23) (v := ?v23x21y) ?h23x21y hS ?_
        case h23x21y => (intro w hw; go_simp; first | done | (with_reducible rfl))
        try simp only [Act.put, List.setIfInBounds_toArray, List.set_cons_zero, List.set_cons_succ]
        refine H.tk (i := 24) (v := ?v24x22y) ?h24x22y hS ?_
        case h24x22y => (intro w hw; go_simp; first | done | (with_reducible rfl))
        try simp only [Act.put, List.setIfInBounds_toArray, List.set_cons_zero, List.set_cons_succ]
        refine wpAnyH_done (by kernel_rfl) ?_ _
        go_wp2_with (first | (refine wpList_loadM (b := w.heap.size) (m := m) rfl _ rfl rfl hS.m ?_))
        refine (P2.out _ hS.i).mono ?_
        rintro r Y1 ⟨rfl, hb⟩
        have HF := Lib.hid (hS.call hb)
        clear hb
        go_wp2_with fail
        refine (P3.out _).mono ?_
        rintro r Y2 ⟨rfl, hb⟩
        have HF := Lib.hid (HF.out.call hb)
        clear hb
        go_wp2
        go_ret
        exact ⟨rfl, HF.out.bel⟩
      case wb18y =>
        go_simp
        refine (O1.out _).mono ?_
        rintro e X2 ⟨rfl, hb⟩
        have hS' := hS.call hb
        have HB := Lib.hid (HB.out.below hb)
        refine hK.out _ _ hS' ?_
        clear hK K hb hS
        have hS := hS'
        clear hS'
        try simp only [Act.put, List.setIfInBounds_toArray, List.set_cons_zero, List.set_cons_succ]
        refine H.two (i := 11) (j := 18) (by simp only [List.getElem?_toArray, List.getElem?_cons_succ, List.getElem?_cons_zero]; rfl) (by kernel_rfl) (by simp only [List.getElem?_toArray, List.getElem?_cons_succ, List.getElem?_cons_zero]; rfl) (by kernel_rfl) (by kernel_rfl) (fun K hK => ?wa23y) (fun K hK => ?wb23y)
        case wa23y =>
          refine wp_valW rfl (ex_conv (x := .tmp 30) (v := .slice (some ⟨g1, 0, none⟩) 4 4) rfl rfl (cv.out _ _ HB.out)) ?_
          refine hK.out _ _ hS ?_
          clear hK K
          try simp only [Act.put, List.setIfInBounds_toArray, List.set_cons_zero, List.set_cons_succ]
          refine H.tk (i := 15) (v := ?v15x24y) ?h15x24y hS ?_
          case h15x24y => (intro w hw; go_simp; first | done | (with_reducible rfl))
          try simp only [Act.put, List.setIfInBounds_toArray, List.set_cons_zero, List.set_cons_succ]
          refine H.one (i := 18) (by simp only [List.getElem?_toArray, List.getElem?_cons_succ, List.getElem?_cons_zero]; rfl) (by kernel_rfl) (by kernel_rfl) (fun K hK => ?_)
          go_simp
          refine (O2.out _).mono ?_
          rintro e X3 ⟨rfl, hb⟩
          have hS' := hS.call hb
          have HB := Lib.hid (HB.out.below hb)
          refine hK.out _ _ hS' ?_
          clear hK K hb hS
          have hS := hS'
          clear hS'
          try simp only [Act.put, List.setIfInBounds_toArray, List.set_cons_zero, List.set_cons_succ]
          refine H.tk (i := 19) (v := ?v19x25y) ?h19x25y hS ?_
          case h19x25y => (intro w hw; go_simp; first | done | (with_reducible rfl))
          try simp only [Act.put, List.setIfInBounds_toArray, List.set_cons_zero, List.set_cons_succ]
          refine H.one (i := 22) (by simp only [List.getElem?_toArray, List.getElem?_cons_succ, List.getElem?_cons_zero]; rfl) (by kernel_rfl) (by kernel_rfl) (fun K hK => ?_)
          go_simp
          refine (O3.out _).mono ?_
          rintro e X4 ⟨rfl, hb⟩
          have hS' := hS.call hb
          have HB := Lib.hid (HB.out.below hb)
          refine hK.out _ _ hS' ?_
          clear hK K hb hS
          have hS := hS'
          clear hS'
          try simp only [Act.put, List.setIfInBounds_toArray, List.set_cons_zero, List.set_cons_succ]
          refine H.tk (i := 23) (v := ?v23x26y) ?h23x26y hS ?_
          case h23x26y => (intro w hw; go_simp; first | done | (with_reducible rfl))
          try simp only [Act.put, List.setIfInBounds_toArray, List.set_cons_zero, List.set_cons_succ]
          refine H.tk (i := 24) (v := ?v24x27y) ?h24x27y hS ?_
          case h24x27y => (intro w hw; go_simp; first | done | (with_reducible rfl))
          try simp only [Act.put, List.setIfInBounds_toArray, List.set_cons_zero, List.set_cons_succ]
          refine wpAnyH_done (by kernel_rfl) ?_ _
          go_wp2_with (first | (refine wpList_loadM (b := w.heap.size) (m := m) rfl _ rfl rfl hS.m ?_))
          refine (P2.out _ hS.i).mono ?_
          rintro r Y1 ⟨rfl, hb⟩
          have HF := Lib.hid (hS.call hb)
          clear hb
          go_wp2_with fail
          refine (P3.out _).mono ?_
          rintro r Y2 ⟨rfl, hb⟩
          have HF := Lib.hid (HF.out.call hb)
          clear hb
          go_wp2
          go_ret
          exact ⟨rfl, HF.out.bel⟩
        case wb23y =>
          go_simp
          refine (O2.out _).mono ?_
          rintro e X3 ⟨rfl, hb⟩
          have hS' := hS.call hb
          have HB := Lib.hid (HB.out.below hb)
          refine hK.out _ _ hS' ?_
          clear hK K hb hS
          have hS := hS'
          clear hS'
          try simp only [Act.put, List.setIfInBounds_toArray, List.set_cons_zero, List.set_cons_succ]
          refine H.two (i := 11) (j := 22) (by simp only [List.getElem?_toArray, List.getElem?_cons_succ, List.getElem?_cons_zero]; rfl) (by kernel_rfl) (by simp only [List.getElem?_toArray, List.getElem?_cons_succ, List.getElem?_cons_zero]; rfl) (by kernel_rfl) (by kernel_rfl) (fun K hK => ?wa28y) (fun K hK => ?wb28y)
          case wa28y =>
            refine wp_valW rfl (ex_conv (x := .tmp 30) (v := .slice (some ⟨g1, 0, none⟩) 4 4) rfl rfl (cv.out _ _ HB.out)) ?_
            refine hK.out _ _ hS ?_
            clear hK K
            try simp only [Act.put, List.setIfInBounds_toArray, List.set_cons_zero, List.set_cons_succ]
            refine H.tk (i := 15) (v := ?v15x29y) ?h15x29y hS ?_
            case h15x29y => (intro w hw; go_simp; first | done | (with_reducible rfl))
            try simp only [Act.put, List.setIfInBounds_toArray, List.set_cons_zero, List.set_cons_succ]
            refine H.tk (i := 19) (v := ?v19x30y) ?h19x30y hS ?_
            case h19x30y => (intro w hw; go_simp; first | done | (with_reducible rfl))
            try simp only [Act.put, List.setIfInBounds_toArray, List.set_cons_zero, List.set_cons_succ]
            refine H.one (i := 22) (by simp only [List.getElem?_toArray, List.getElem?_cons_succ, List.getElem?_cons_zero]; rfl) (by kernel_rfl) (by kernel_rfl) (fun K hK => ?_)
            go_simp
            refine (O3.out _).mono ?_
            rintro e X4 ⟨rfl, hb⟩
            have hS' := hS.call hb
            have HB := Lib.hid (HB.out.below hb)
            refine hK.out _ _ hS' ?_
            clear hK K hb hS
            have hS := hS'
            clear hS'
            try simp only [Act.put, List.setIfInBounds_toArray, List.set_cons_zero, List.set_cons_succ]
            refine H.tk (i := 23) (v := ?v23x31y) ?h23x31y hS ?_
            case h23x31y => (intro w hw; go_simp; first | done | (with_reducible rfl))
            try simp only [Act.put, List.setIfInBounds_toArray, List.set_cons_zero, List.set_cons_succ]
            refine H.tk (i := 24) (v := ?v24x32y) ?h24x32y hS ?_
            case h24x32y => (intro w hw; go_simp; first | done | (with_reducible rfl))
            try simp only [Act.put, List.setIfInBounds_toArray, List.set_cons_zero, List.set_cons_succ]
            refine wpAnyH_done (by kernel_rfl) ?_ _
            go_wp2_with (first | (refine wpList_loadM (b := w.heap.size) (m := m) rfl _ rfl rfl hS.m ?_))
            refine (P2.out _ hS.i).mono ?_
            rintro r Y1 ⟨rfl, hb⟩
            have HF := Lib.hid (hS.call hb)
            clear hb
            go_wp2_with fail
            refine (P3.out _).mono ?_
            rintro r Y2 ⟨rfl, hb⟩
            have HF := Lib.hid (HF.out.call hb)
            clear hb
            go_wp2
            go_ret
            exact ⟨rfl, HF.out.bel⟩
          case wb28y =>
            go_simp
            refine (O3.out _).mono ?_
            rintro e X4 ⟨rfl, hb⟩
            have hS' := hS.call hb
            have HB := Lib.hid (HB.out.below hb)
            refine hK.out _ _ hS' ?_
            clear hK K hb hS
            have hS := hS'
            clear hS'
            try simp only [Act.put, List.setIfInBounds_toArray, List.set_cons_zero, List.set_cons_succ]
            refine H.one (i := 11) (by simp only [List.getElem?_toArray, List.getElem?_cons_succ, List.getElem?_cons_zero]; rfl) (by kernel_rfl) (by kernel_rfl) (fun K hK => ?_)
            refine wp_valW rfl (ex_conv (x := .tmp 30) (v := .slice (some ⟨g1, 0, none⟩) 4 4) rfl rfl (cv.out _ _ HB.out)) ?_
            refine hK.out _ _ hS ?_
            clear hK K
            try simp only [Act.put, List.setIfInBounds_toArray, List.set_cons_zero, List.set_cons_succ]
            refine H.tk (i := 15) (v := ?v15x33y) ?h15x33y hS ?_
            case h15x33y => (intro w hw; go_simp; first | done | (with_reducible rfl))
            try simp only [Act.put, List.setIfInBounds_toArray, List.set_cons_zero, List.set_cons_succ]
            refine H.tk (i := 19) (v := ?v19x34y) ?h19x34y hS ?_
            case h19x34y => (intro w hw; go_simp; first | done | (with_reducible rfl))
            try simp only [Act.put, List.setIfInBounds_toArray, List.set_cons_zero, List.set_cons_succ]
            refine H.tk (i := 23) (v := ?v23x35y) ?h23x35y hS ?_
            case h23x35y => (intro w hw; go_simp; first | done | (with_reducible rfl))
            try simp only [Act.put, List.setIfInBounds_toArray, List.set_cons_zero, List.set_cons_succ]
            refine H.tk (i := 24) (v := ?v24x36y) ?h24x36y hS ?_
            case h24x36y => (intro w hw; go_simp; first | done | (with_reducible rfl))
            try simp only [Act.put, List.setIfInBounds_toArray, List.set_cons_zero, List.set_cons_succ]
            refine wpAnyH_done (by kernel_rfl) ?_ _
            go_wp2_with (first | (refine wpList_loadM (b := w.heap.size) (m := m) rfl _ rfl rfl hS.m ?_))
            refine (P2.out _ hS.i).mono ?_
            rintro r Y1 ⟨rfl, hb⟩
            have HF := Lib.hid (hS.call hb)
            clear hb
            go_wp2_with fail
            refine (P3.out _).mono ?_
            rintro r Y2 ⟨rfl, hb⟩
            have HF := Lib.hid (HF.out.call hb)
            clear hb
            go_wp2
            go_ret
            exact ⟨rfl, HF.out.bel⟩
    case wb17y =>
      go_simp
      refine (O1.out _).mono ?_
      rintro e X1 ⟨rfl, hb⟩
      have hS' := hS.call hb
      refine hK.out _ _ hS' ?_
      clear hK K hb hS
      have hS := hS'
      clear hS'
      try simp only [Act.put, List.setIfInBounds_toArray, List.set_cons_zero, List.set_cons_succ]
      refine H.two (i := 10) (j := 18) (by simp only [List.getElem?_toArray, List.getElem?_cons_succ, List.getElem?_cons_zero]; rfl) (by kernel_rfl) (by simp only [List.getElem?_toArray, List.getElem?_cons_succ, List.getElem?_cons_zero]; rfl) (by kernel_rfl) (by kernel_rfl) (fun K hK => ?wa37y) (fun K hK => ?wb37y)
      case wa37y =>
        refine wp_valW rfl (ex_bs4 (a := (b0.toNat : Int)) (b := (b1.toNat : Int)) (c := (b2.toNat : Int)) (d := (b3.toNat : Int)) rfl rfl rfl rfl rfl) ?_
        have hS' := hS.call (balloc (Below.refl _ X1) (.cells #[.int .u8 (b0.toNat : Int), .int .u8 (b1.toNat : Int), .int .u8 (b2.toNat : Int), .int .u8 (b3.toNat : Int)] 5))
        refine hK.out _ _ hS' ?_
        have HB := Lib.hid (Bk.Bk.new 5 X1 #[.int .u8 (b0.toNat : Int), .int .u8 (b1.toNat : Int), .int .u8 (b2.toNat : Int), .int .u8 (b3.toNat : Int)])
        clear hK K hS
        have hS := hS'
        clear hS'
        generalize X1.alloc (.cells #[.int .u8 (b0.toNat : Int), .int .u8 (b1.toNat : Int), .int .u8 (b2.toNat : Int), .int .u8 (b3.toNat : Int)] 5) = X2 at *
        generalize X1.heap.size = g2 at *
        try simp only [Act.put, List.setIfInBounds_toArray, List.set_cons_zero, List.set_cons_succ]
        refine H.two (i := 11) (j := 18) (by simp only [List.getElem?_toArray, List.getElem?_cons_succ, List.getElem?_cons_zero]; rfl) (by kernel_rfl) (by simp only [List.getElem?_toArray, List.getElem?_cons_succ, List.getElem?_cons_zero]; rfl) (by kernel_rfl) (by kernel_rfl) (fun K hK => ?wa38y) (fun K hK => ?wb38y)
        case wa38y =>
          refine wp_valW rfl (ex_conv (x := .tmp 30) (v := .slice (some ⟨g2, 0, none⟩) 4 4) rfl rfl (cv.out _ _ HB.out)) ?_
          refine hK.out _ _ hS ?_
          clear hK K
          try simp only [Act.put, List.setIfInBounds_toArray, List.set_cons_zero, List.set_cons_succ]
          refine H.tk (i := 15) (v := ?v15x39y) ?h15x39y hS ?_
          case h15x39y => (intro w hw; go_simp; first | done | (with_reducible rfl))
          try simp only [Act.put, List.setIfInBounds_toArray, List.set_cons_zero, List.set_cons_succ]
          refine H.one (i := 18) (by simp only [List.getElem?_toArray, List.getElem?_cons_succ, List.getElem?_cons_zero]; rfl) (by kernel_rfl) (by kernel_rfl) (fun K hK => ?_)
          go_simp
          refine (O2.out _).mono ?_
          rintro e X3 ⟨rfl, hb⟩
          have hS' := hS.call hb
          have HB := Lib.hid (HB.out.below hb)
          refine hK.out _ _ hS' ?_
          clear hK K hb hS
          have hS := hS'
          clear hS'
          try simp only [Act.put, List.setIfInBounds_toArray, List.set_cons_zero, List.set_cons_succ]
          refine H.tk (i := 19) (v := ?v19x40y) ?h19x40y hS ?_
          case h19x40y => (intro w hw; go_simp; first | done | (with_reducible rfl))
          try simp only [Act.put, List.setIfInBounds_toArray, List.set_cons_zero, List.set_cons_succ]
          refine H.one (i := 22) (by simp only [List.getElem?_toArray, List.getElem?_cons_succ, List.getElem?_cons_zero]; rfl) (by kernel_rfl) (by kernel_rfl) (fun K hK => ?_)
          go_simp
          refine (O3.out _).mono ?_
          rintro e X4 ⟨rfl, hb⟩
          have hS' := hS.call hb
          have HB := Lib.hid (HB.out.below hb)
          refine hK.out _ _ hS' ?_
          clear hK K hb hS
          have hS := hS'
          clear hS'
          try simp only [Act.put, List.setIfInBounds_toArray, List.set_cons_zero, List.set_cons_succ]
          refine H.tk (i := 23) (v := ?v23x41y) ?h23x41y hS ?_
          case h23x41y => (intro w hw; go_simp; first | done | (with_reducible rfl))
          try simp only [Act.put, List.setIfInBounds_toArray, List.set_cons_zero, List.set_cons_succ]
          refine H.tk (i := 24) (v := ?v24x42y) ?h24x42y hS ?_
          case h24x42y => (intro w hw; go_simp; first | done | (with_reducible rfl))
          try simp only [Act.put, List.setIfInBounds_toArray, List.set_cons_zero, List.set_cons_succ]
          refine wpAnyH_done (by kernel_rfl) ?_ _
          go_wp2_with (first | (refine wpList_loadM (b := w.heap.size) (m := m) rfl _ rfl rfl hS.m ?_))
          refine (P2.out _ hS.i).mono ?_
          rintro r Y1 ⟨rfl, hb⟩
          have HF := Lib.hid (hS.call hb)
          clear hb
          go_wp2_with fail
          refine (P3.out _).mono ?_
          rintro r Y2 ⟨rfl, hb⟩
          have HF := Lib.hid (HF.out.call hb)
          clear hb
          go_wp2
          go_ret
          exact ⟨rfl, HF.out.bel⟩
        case wb38y =>
          go_simp
          refine (O2.out _).mono ?_
          rintro e X3 ⟨rfl, hb⟩
          have hS' := hS.call hb
          have HB := Lib.hid (HB.out.below hb)
          refine hK.out _ _ hS' ?_
          clear hK K hb hS
          have hS := hS'
          clear hS'
          try simp only [Act.put, List.setIfInBounds_toArray, List.set_cons_zero, List.set_cons_succ]
          refine H.two (i := 11) (j := 22) (by simp only [List.getElem?_toArray, List.getElem?_cons_succ, List.getElem?_cons_zero]; rfl) (by kernel_rfl) (by simp only [List.getElem?_toArray, List.getElem?_cons_succ, List.getElem?_cons_zero]; rfl) (by kernel_rfl) (by kernel_rfl) (fun K hK => ?wa43y) (fun K hK => ?wb43y)
          case wa43y =>
            refine wp_valW rfl (ex_conv (x := .tmp 30) (v := .slice (some ⟨g2, 0, none⟩) 4 4) rfl rfl (cv.out _ _ HB.out)) ?_
            refine hK.out _ _ hS ?_
            clear hK K
            try simp only [Act.put, List.setIfInBounds_toArray, List.set_cons_zero, List.set_cons_succ]
            refine H.tk (i := 15) (v := ?v15x44y) ?h15x44y hS ?_
            case h15x44y => (intro w hw; go_simp; first | done | (with_reducible rfl))
            try simp only [Act.put, List.setIfInBounds_toArray, List.set_cons_zero, List.set_cons_succ]
            refine H.tk (i := 19) (v := ?v19x45y) ?h19x45y hS ?_
            case h19x45y => (intro w hw; go_simp; first | done | (with_reducible rfl))
            try simp only [Act.put, List.setIfInBounds_toArray, List.set_cons_zero, List.set_cons_succ]
            refine H.one (i := 22) (by simp only [List.getElem?_toArray, List.getElem?_cons_succ, List.getElem?_cons_zero]; rfl) (by kernel_rfl) (by kernel_rfl) (fun K hK => ?_)
            go_simp
            refine (O3.out _).mono ?_
            rintro e X4 ⟨rfl, hb⟩
            have hS' := hS.call hb
            have HB := Lib.hid (HB.out.below hb)
            refine hK.out _ _ hS' ?_
            clear hK K hb hS
            have hS := hS'
            clear hS'
            try simp only [Act.put, List.setIfInBounds_toArray, List.set_cons_zero, List.set_cons_succ]
            refine H.tk (i := 23) (v := ?v23x46y) ?h23x46y hS ?_
            case h23x46y => (intro w hw; go_simp; first | done | (with_reducible rfl))
            try simp only [Act.put, List.setIfInBounds_toArray, List.set_cons_zero, List.set_cons_succ]
            refine H.tk (i := 24) (v := ?v24x47y) ?h24x47y hS ?_
            case h24x47y => (intro w hw; go_simp; first | done | (with_reducible rfl))
            try simp only [Act.put, List.setIfInBounds_toArray, List.set_cons_zero, List.set_cons_succ]
            refine wpAnyH_done (by kernel_rfl) ?_ _
            go_wp2_with (first | (refine wpList_loadM (b := w.heap.size) (m := m) rfl _ rfl rfl hS.m ?_))
            refine (P2.out _ hS.i).mono ?_
            rintro r Y1 ⟨rfl, hb⟩
            have HF := Lib.hid (hS.call hb)
            clear hb
            go_wp2_with fail
            refine (P3.out _).mono ?_
            rintro r Y2 ⟨rfl, hb⟩
            have HF := Lib.hid (HF.out.call hb)
            clear hb
            go_wp2
            go_ret
            exact ⟨rfl, HF.out.bel⟩
          case wb43y =>
            go_simp
            refine (O3.out _).mono ?_
            rintro e X4 ⟨rfl, hb⟩
            have hS' := hS.call hb
            have HB := Lib.hid (HB.out.below hb)
            refine hK.out _ _ hS' ?_
            clear hK K hb hS
            have hS := hS'
            clear hS'
            try simp only [Act.put, List.setIfInBounds_toArray, List.set_cons_zero, List.set_cons_succ]
            refine H.one (i := 11) (by simp only [List.getElem?_toArray, List.getElem?_cons_succ, List.getElem?_cons_zero]; rfl) (by kernel_rfl) (by kernel_rfl) (fun K hK => ?_)
            refine wp_valW rfl (ex_conv (x := .tmp 30) (v := .slice (some ⟨g2, 0, none⟩) 4 4) rfl rfl (cv.out _ _ HB.out)) ?_
            refine hK.out _ _ hS ?_
            clear hK K
            try simp only [Act.put, List.setIfInBounds_toArray, List.set_cons_zero, List.set_cons_succ]
            refine H.tk (i := 15) (v := ?v15x48y) ?h15x48y hS ?_
            case h15x48y => (intro w hw; go_simp; first | done | (with_reducible rfl))
            try simp only [Act.put, List.setIfInBounds_toArray, List.set_cons_zero, List.set_cons_succ]
            refine H.tk (i := 19) (v := ?v19x49y) ?h19x49y hS ?_
            case h19x49y => (intro w hw; go_simp; first | done | (with_reducible rfl))
            try simp only [Act.put, List.setIfInBounds_toArray, List.set_cons_zero, List.set_cons_succ]
            refine H.tk (i := 23) (v := ?v23x50y) ?h23x50y hS ?_
            case h23x50y => (intro w hw; go_simp; first | done | (with_reducible rfl))
            try simp only [Act.put, List.setIfInBounds_toArray, List.set_cons_zero, List.set_cons_succ]
            refine H.tk (i := 24) (v := ?v24x51y) ?h24x51y hS ?_
            case h24x51y => (intro w hw; go_simp; first | done | (with_reducible rfl))
            try simp only [Act.put, List.setIfInBounds_toArray, List.set_cons_zero, List.set_cons_succ]
            refine wpAnyH_done (by kernel_rfl) ?_ _
            go_wp2_with (first | (refine wpList_loadM (b := w.heap.size) (m := m) rfl _ rfl rfl hS.m ?_))
            refine (P2.out _ hS.i).mono ?_
            rintro r Y1 ⟨rfl, hb⟩
            have HF := Lib.hid (hS.call hb)
            clear hb
            go_wp2_with fail
            refine (P3.out _).mono ?_
            rintro r Y2 ⟨rfl, hb⟩
            have HF := Lib.hid (HF.out.call hb)
            clear hb
            go_wp2
            go_ret
            exact ⟨rfl, HF.out.bel⟩
      case wb37y =>
        go_simp
        refine (O2.out _).mono ?_
        rintro e X2 ⟨rfl, hb⟩
        have hS' := hS.call hb
        refine hK.out _ _ hS' ?_
        clear hK K hb hS
        have hS := hS'
        clear hS'
        try simp only [Act.put, List.setIfInBounds_toArray, List.set_cons_zero, List.set_cons_succ]
        refine H.two (i := 10) (j := 22) (by simp only [List.getElem?_toArray, List.getElem?_cons_succ, List.getElem?_cons_zero]; rfl) (by kernel_rfl) (by simp only [List.getElem?_toArray, List.getElem?_cons_succ, List.getElem?_cons_zero]; rfl) (by kernel_rfl) (by kernel_rfl) (fun K hK => ?wa52y) (fun K hK => ?wb52y)
        case wa52y =>
          refine wp_valW rfl (ex_bs4 (a := (b0.toNat : Int)) (b := (b1.toNat : Int)) (c := (b2.toNat : Int)) (d := (b3.toNat : Int)) rfl rfl rfl rfl rfl) ?_
          have hS' := hS.call (balloc (Below.refl _ X2) (.cells #[.int .u8 (b0.toNat : Int), .int .u8 (b1.toNat : Int), .int .u8 (b2.toNat : Int), .int .u8 (b3.toNat : Int)] 5))
          refine hK.out _ _ hS' ?_
          have HB := Lib.hid (Bk.Bk.new 5 X2 #[.int .u8 (b0.toNat : Int), .int .u8 (b1.toNat : Int), .int .u8 (b2.toNat : Int), .int .u8 (b3.toNat : Int)])
          clear hK K hS
          have hS := hS'
          clear hS'
          generalize X2.alloc (.cells #[.int .u8 (b0.toNat : Int), .int .u8 (b1.toNat : Int), .int .u8 (b2.toNat : Int), .int .u8 (b3.toNat : Int)] 5) = X3 at *
          generalize X2.heap.size = g3 at *
          try simp only [Act.put, List.setIfInBounds_toArray, List.set_cons_zero, List.set_cons_succ]
          refine H.two (i := 11) (j := 22) (by simp only [List.getElem?_toArray, List.getElem?_cons_succ, List.getElem?_cons_zero]; rfl) (by kernel_rfl) (by simp only [List.getElem?_toArray, List.getElem?_cons_succ, List.getElem?_cons_zero]; rfl) (by kernel_rfl) (by kernel_rfl) (fun K hK => ?wa53y) (fun K hK => ?wb53y)
          case wa53y =>
            refine wp_valW rfl (ex_conv (x := .tmp 30) (v := .slice (some ⟨g3, 0, none⟩) 4 4) rfl rfl (cv.out _ _ HB.out)) ?_
            refine hK.out _ _ hS ?_
            clear hK K
            try simp only [Act.put, List.setIfInBounds_toArray, List.set_cons_zero, List.set_cons_succ]
            refine H.tk (i := 15) (v := ?v15x54y) ?h15x54y hS ?_
            case h15x54y => (intro w hw; go_simp; first | done | (with_reducible rfl))
            try simp only [Act.put, List.setIfInBounds_toArray, List.set_cons_zero, List.set_cons_succ]
            refine H.tk (i := 19) (v := ?v19x55y) ?h19x55y hS ?_
            case h19x55y => (intro w hw; go_simp; first | done | (with_reducible rfl))
            try simp only [Act.put, List.setIfInBounds_toArray, List.set_cons_zero, List.set_cons_succ]
            refine H.one (i := 22) (by simp only [List.getElem?_toArray, List.getElem?_cons_succ, List.getElem?_cons_zero]; rfl) (by kernel_rfl) (by kernel_rfl) (fun K hK => ?_)
            go_simp
            refine (O3.out _).mono ?_
            rintro e X4 ⟨rfl, hb⟩
            have hS' := hS.call hb
            have HB := Lib.hid (HB.out.below hb)
            refine hK.out _ _ hS' ?_
            clear hK K hb hS
            have hS := hS'
            clear hS'
            try simp only [Act.put, List.setIfInBounds_toArray, List.set_cons_zero, List.set_cons_succ]
            refine H.tk (i := 23) (v := ?v23x56y) ?h23x56y hS ?_
            case h23x56y => (intro w hw; go_simp; first | done | (with_reducible rfl))
            try simp only [Act.put, List.setIfInBounds_toArray, List.set_cons_zero, List.set_cons_succ]
            refine H.tk (i := 24) (v := ?v24x57y) ?h24x57y hS ?_
            case h24x57y => (intro w hw; go_simp; first | done | (with_reducible rfl))
            try simp only [Act.put, List.setIfInBounds_toArray, List.set_cons_zero, List.set_cons_succ]
            refine wpAnyH_done (by kernel_rfl) ?_ _
            go_wp2_with (first | (refine wpList_loadM (b := w.heap.size) (m := m) rfl _ rfl rfl hS.m ?_))
            refine (P2.out _ hS.i).mono ?_
            rintro r Y1 ⟨rfl, hb⟩
            have HF := Lib.hid (hS.call hb)
            clear hb
            go_wp2_with fail
            refine (P3.out _).mono ?_
            rintro r Y2 ⟨rfl, hb⟩
            have HF := Lib.hid (HF.out.call hb)
            clear hb
            go_wp2
            go_ret
            exact ⟨rfl, HF.out.bel⟩
          case wb53y =>
            go_simp
            refine (O3.out _).mono ?_
            rintro e X4 ⟨rfl, hb⟩
            have hS' := hS.call hb
            have HB := Lib.hid (HB.out.below hb)
            refine hK.out _ _ hS' ?_
            clear hK K hb hS
            have hS := hS'
            clear hS'
            try simp only [Act.put, List.setIfInBounds_toArray, List.set_cons_zero, List.set_cons_succ]
            refine H.one (i := 11) (by simp only [List.getElem?_toArray, List.getElem?_cons_succ, List.getElem?_cons_zero]; rfl) (by kernel_rfl) (by kernel_rfl) (fun K hK => ?_)
            refine wp_valW rfl (ex_conv (x := .tmp 30) (v := .slice (some ⟨g3, 0, none⟩) 4 4) rfl rfl (cv.out _ _ HB.out)) ?_
            refine hK.out _ _ hS ?_
            clear hK K
            try simp only [Act.put, List.setIfInBounds_toArray, List.set_cons_zero, List.set_cons_succ]
            refine H.tk (i := 15) (v := ?v15x58y) ?h15x58y hS ?_
            case h15x58y => (intro w hw; go_simp; first | done | (with_reducible rfl))
            try simp only [Act.put, List.setIfInBounds_toArray, List.set_cons_zero, List.set_cons_succ]
            refine H.tk (i := 19) (v := ?v19x59y) ?h19x59y hS ?_
            case h19x59y => (intro w hw; go_simp; first | done | (with_reducible rfl))
            try simp only [Act.put, List.setIfInBounds_toArray, List.set_cons_zero, List.set_cons_succ]
            refine H.tk (i := 23) (v := ?v23x60y) ?h23x60y hS ?_
            case h23x60y => (intro w hw; go_simp; first | done | (with_reducible rfl))
            try simp only [Act.put, List.setIfInBounds_toArray, List.set_cons_zero, List.set_cons_succ]
            refine H.tk (i := 24) (v := ?v24x61y) ?h24x61y hS ?_
            case h24x61y => (intro w hw; go_simp; first | done | (with_reducible rfl))
            try simp only [Act.put, List.setIfInBounds_toArray, List.set_cons_zero, List.set_cons_succ]
            refine wpAnyH_done (by kernel_rfl) ?_ _
            go_wp2_with (first | (refine wpList_loadM (b := w.heap.size) (m := m) rfl _ rfl rfl hS.m ?_))
            refine (P2.out _ hS.i).mono ?_
            rintro r Y1 ⟨rfl, hb⟩
            have HF := Lib.hid (hS.call hb)
            clear hb
            go_wp2_with fail
            refine (P3.out _).mono ?_
            rintro r Y2 ⟨rfl, hb⟩
            have HF := Lib.hid (HF.out.call hb)
            clear hb
            go_wp2
            go_ret
            exact ⟨rfl, HF.out.bel⟩
        case wb52y =>
          go_simp
          refine (O3.out _).mono ?_
          rintro e X3 ⟨rfl, hb⟩
          have hS' := hS.call hb
          refine hK.out _ _ hS' ?_
          clear hK K hb hS
          have hS := hS'
          clear hS'
          try simp only [Act.put, List.setIfInBounds_toArray, List.set_cons_zero, List.set_cons_succ]
          refine H.one (i := 10) (by simp only [List.getElem?_toArray, List.getElem?_cons_succ, List.getElem?_cons_zero]; rfl) (by kernel_rfl) (by kernel_rfl) (fun K hK => ?_)
          refine wp_valW rfl (ex_bs4 (a := (b0.toNat : Int)) (b := (b1.toNat : Int)) (c := (b2.toNat : Int)) (d := (b3.toNat : Int)) rfl rfl rfl rfl rfl) ?_
          have hS' := hS.call (balloc (Below.refl _ X3) (.cells #[.int .u8 (b0.toNat : Int), .int .u8 (b1.toNat : Int), .int .u8 (b2.toNat : Int), .int .u8 (b3.toNat : Int)] 5))
          refine hK.out _ _ hS' ?_
          have HB := Lib.hid (Bk.Bk.new 5 X3 #[.int .u8 (b0.toNat : Int), .int .u8 (b1.toNat : Int), .int .u8 (b2.toNat : Int), .int .u8 (b3.toNat : Int)])
          clear hK K hS
          have hS := hS'
          clear hS'
          generalize X3.alloc (.cells #[.int .u8 (b0.toNat : Int), .int .u8 (b1.toNat : Int), .int .u8 (b2.toNat : Int), .int .u8 (b3.toNat : Int)] 5) = X4 at *
          generalize X3.heap.size = g4 at *
          try simp only [Act.put, List.setIfInBounds_toArray, List.set_cons_zero, List.set_cons_succ]
          refine H.one (i := 11) (by simp only [List.getElem?_toArray, List.getElem?_cons_succ, List.getElem?_cons_zero]; rfl) (by kernel_rfl) (by kernel_rfl) (fun K hK => ?_)
          refine wp_valW rfl (ex_conv (x := .tmp 30) (v := .slice (some ⟨g4, 0, none⟩) 4 4) rfl rfl (cv.out _ _ HB.out)) ?_
          refine hK.out _ _ hS ?_
          clear hK K
          try simp only [Act.put, List.setIfInBounds_toArray, List.set_cons_zero, List.set_cons_succ]
          refine H.tk (i := 15) (v := ?v15x62y) ?h15x62y hS ?_
          case h15x62y => (intro w hw; go_simp; first | done | (with_reducible rfl))
          try simp only [Act.put, List.setIfInBounds_toArray, List.set_cons_zero, List.set_cons_succ]
          refine H.tk (i := 19) (v := ?v19x63y) ?h19x63y hS ?_
          case h19x63y => (intro w hw; go_simp; first | done | (with_reducible rfl))
          try simp only [Act.put, List.setIfInBounds_toArray, List.set_cons_zero, List.set_cons_succ]
          refine H.tk (i := 23) (v := ?v23x64y) ?h23x64y hS ?_
          case h23x64y => (intro w hw; go_simp; first | done | (with_reducible rfl))
          try simp only [Act.put, List.setIfInBounds_toArray, List.set_cons_zero, List.set_cons_succ]
          refine H.tk (i := 24) (v := ?v24x65y) ?h24x65y hS ?_
          case h24x65y => (intro w hw; go_simp; first | done | (with_reducible rfl))
          try simp only [Act.put, List.setIfInBounds_toArray, List.set_cons_zero, List.set_cons_succ]
          refine wpAnyH_done (by kernel_rfl) ?_ _
          go_wp2_with (first | (refine wpList_loadM (b := w.heap.size) (m := m) rfl _ rfl rfl hS.m ?_))
          refine (P2.out _ hS.i).mono ?_
          rintro r Y1 ⟨rfl, hb⟩
          have HF := Lib.hid (hS.call hb)
          clear hb
          go_wp2_with fail
          refine (P3.out _).mono ?_
          rintro r Y2 ⟨rfl, hb⟩
          have HF := Lib.hid (HF.out.call hb)
          clear hb
          go_wp2
          go_ret
          exact ⟨rfl, HF.out.bel⟩
  rw [if_neg h0] at HFL
  obtain rfl := HFL.out
  have e0 : (m.ae == 0) = false := by simpa using h0
  clear HFL h0
  go_enter Tryz.func44, Tryz.ntmps44
  go_upto_region 1 with fail
  generalize w.alloc (.cells m.cells 38) = V at *
  have c5 := HF.out.m.cs.c5
  have c24 := HF.out.m.cs.c24
  go_wp2_with fail
  refine (P1.out _ HF.out.i).mono ?_
  rintro r V1 ⟨rfl, hb⟩
  have HF := Lib.hid (HF.out.call hb)
  clear hb c5 c24 e0 P1
  go_upto_region 5 with fail
  refine wp_region_held_drew (S := fun W => Fs w W w.heap.size m) (by kernel_rfl) HF.out.drew (fun hS => ?_)
  clear HF
  generalize V1.drew = X0 at *
  refine H.tk (i := 0) (v := ?v0x1n) ?h0x1n hS ?_
  case h0x1n => (intro w hw; go_simp; first | done | (with_reducible rfl))
  try simp only [Act.put, List.setIfInBounds_toArray, List.set_cons_zero, List.set_cons_succ]
  refine H.tk (i := 1) (v := ?v1x2n) ?h1x2n hS ?_
  case h1x2n => (intro w hw; have c := (hw.m).cs.c5; go_simp; first | done | (with_reducible rfl))
  try simp only [Act.put, List.setIfInBounds_toArray, List.set_cons_zero, List.set_cons_succ]
  refine H.tk (i := 2) (v := ?v2x3n) ?h2x3n hS ?_
  case h2x3n => (intro w hw; go_simp; first | done | (with_reducible rfl))
  try simp only [Act.put, List.setIfInBounds_toArray, List.set_cons_zero, List.set_cons_succ]
  refine H.tk (i := 3) (v := ?v3x4n) ?h3x4n hS ?_
  case h3x4n => (intro w hw; go_simp; first | done | (with_reducible rfl))
  try simp only [Act.put, List.setIfInBounds_toArray, List.set_cons_zero, List.set_cons_succ]
  refine H.tk (i := 4) (v := ?v4x5n) ?h4x5n hS ?_
  case h4x5n => (intro w hw; go_simp; first | done | (with_reducible rfl))
  try simp only [Act.put, List.setIfInBounds_toArray, List.set_cons_zero, List.set_cons_succ]
  refine H.tk (i := 5) (v := ?v5x6n) ?h5x6n hS ?_
  case h5x6n => (intro w hw; go_simp; first | done | (with_reducible rfl))
  try simp only [Act.put, List.setIfInBounds_toArray, List.set_cons_zero, List.set_cons_succ]
  refine H.tk (i := 6) (v := ?v6x7n) ?h6x7n hS ?_
  case h6x7n => (intro w hw; have c := (hw.m).cs.c7; go_simp; first | done | (with_reducible rfl))
  try simp only [Act.put, List.setIfInBounds_toArray, List.set_cons_zero, List.set_cons_succ]
  refine H.tk (i := 7) (v := ?v7x8n) ?h7x8n hS ?_
  case h7x8n => (intro w hw; go_simp; first | done | (with_reducible rfl))
  try simp only [Act.put, List.setIfInBounds_toArray, List.set_cons_zero, List.set_cons_succ]
  refine H.tk (i := 8) (v := ?v8x9n) ?h8x9n hS ?_
  case h8x9n => (intro w hw; go_simp; first | done | (with_reducible rfl))
  try simp only [Act.put, List.setIfInBounds_toArray, List.set_cons_zero, List.set_cons_succ]
  refine H.tk (i := 9) (v := ?v9x10n) ?h9x10n hS ?_
  case h9x10n => (intro w hw; go_simp; first | done | (with_reducible rfl))
  try simp only [Act.put, List.setIfInBounds_toArray, List.set_cons_zero, List.set_cons_succ]
  refine H.tk (i := 12) (v := ?v12x11n) ?h12x11n hS ?_
  case h12x11n => (intro w hw; go_simp; first | done | (with_reducible rfl))
  try simp only [Act.put, List.setIfInBounds_toArray, List.set_cons_zero, List.set_cons_succ]
  refine H.tk (i := 13) (v := ?v13x12n) ?h13x12n hS ?_
  case h13x12n => (intro w hw; have c := (hw.m).cs.c14; go_simp; first | done | (with_reducible rfl))
  try simp only [Act.put, List.setIfInBounds_toArray, List.set_cons_zero, List.set_cons_succ]
  refine H.tk (i := 16) (v := ?v16x13n) ?h16x13n hS ?_
  case h16x13n => (intro w hw; go_simp; first | done | (with_reducible rfl))
  try simp only [Act.put, List.setIfInBounds_toArray, List.set_cons_zero, List.set_cons_succ]
  refine H.tk (i := 17) (v := ?v17x14n) ?h17x14n hS ?_
  case h17x14n => (intro w hw; have c := (hw.m).cs.c12; go_simp; first | done | (with_reducible rfl))
  try simp only [Act.put, List.setIfInBounds_toArray, List.set_cons_zero, List.set_cons_succ]
  refine H.tk (i := 20) (v := ?v20x15n) ?h20x15n hS ?_
  case h20x15n => (intro w hw; go_simp; first | done | (with_reducible rfl))
  try simp only [Act.put, List.setIfInBounds_toArray, List.set_cons_zero, List.set_cons_succ]
  refine H.tk (i := 21) (v := ?v21x16n) ?h21x16n hS ?_
  case h21x16n => (intro w hw; have c := (hw.m).cs.c10; go_simp; first | done | (with_reducible rfl))
  try simp only [Act.put, List.setIfInBounds_toArray, List.set_cons_zero, List.set_cons_succ]
  refine H.two (i := 10) (j := 14) (by simp only [List.getElem?_toArray, List.getElem?_cons_succ, List.getElem?_cons_zero]; rfl) (by kernel_rfl) (by simp only [List.getElem?_toArray, List.getElem?_cons_succ, List.getElem?_cons_zero]; rfl) (by kernel_rfl) (by kernel_rfl) (fun K hK => ?wa17n) (fun K hK => ?wb17n)
  case wa17n =>
    refine wp_valW rfl (ex_bs4 (a := (b0.toNat : Int)) (b := (b1.toNat : Int)) (c := (b2.toNat : Int)) (d := (b3.toNat : Int)) rfl rfl rfl rfl rfl) ?_
    have hS' := hS.call (balloc (Below.refl _ X0) (.cells #[.int .u8 (b0.toNat : Int), .int .u8 (b1.toNat : Int), .int .u8 (b2.toNat : Int), .int .u8 (b3.toNat : Int)] 5))
    refine hK.out _ _ hS' ?_
    have HB := Lib.hid (Bk.Bk.new 5 X0 #[.int .u8 (b0.toNat : Int), .int .u8 (b1.toNat : Int), .int .u8 (b2.toNat : Int), .int .u8 (b3.toNat : Int)])
    clear hK K hS
    have hS := hS'
    clear hS'
    generalize X0.alloc (.cells #[.int .u8 (b0.toNat : Int), .int .u8 (b1.toNat : Int), .int .u8 (b2.toNat : Int), .int .u8 (b3.toNat : Int)] 5) = X1 at *
    generalize X0.heap.size = g1 at *
    try simp only [Act.put, List.setIfInBounds_toArray, List.set_cons_zero, List.set_cons_succ]
    refine H.two (i := 11) (j := 14) (by simp only [List.getElem?_toArray, List.getElem?_cons_succ, List.getElem?_cons_zero]; rfl) (by kernel_rfl) (by simp only [List.getElem?_toArray, List.getElem?_cons_succ, List.getElem?_cons_zero]; rfl) (by kernel_rfl) (by kernel_rfl) (fun K hK => ?wa18n) (fun K hK => ?wb18n)
    case wa18n =>
      refine wp_valW rfl (ex_conv (x := .tmp 30) (v := .slice (some ⟨g1, 0, none⟩) 4 4) rfl rfl (cv.out _ _ HB.out)) ?_
      refine hK.out _ _ hS ?_
      clear hK K
      try simp only [Act.put, List.setIfInBounds_toArray, List.set_cons_zero, List.set_cons_succ]
      refine H.one (i := 14) (by simp only [List.getElem?_toArray, List.getElem?_cons_succ, List.getElem?_cons_zero]; rfl) (by kernel_rfl) (by kernel_rfl) (fun K hK => ?_)
      go_simp
      refine (O1.out _).mono ?_
      rintro e X2 ⟨rfl, hb⟩
      have hS' := hS.call hb
      have HB := Lib.hid (HB.out.below hb)
      refine hK.out _ _ hS' ?_
      clear hK K hb hS
      have hS := hS'
      clear hS'
      try simp only [Act.put, List.setIfInBounds_toArray, List.set_cons_zero, List.set_cons_succ]
      refine H.tk (i := 15) (v := ?v15x19n) ?h15x19n hS ?_
      case h15x19n => (intro w hw; go_simp; first | done | (with_reducible rfl))
      try simp only [Act.put, List.setIfInBounds_toArray, List.set_cons_zero, List.set_cons_succ]
      refine H.one (i := 18) (by simp only [List.getElem?_toArray, List.getElem?_cons_succ, List.getElem?_cons_zero]; rfl) (by kernel_rfl) (by kernel_rfl) (fun K hK => ?_)
      go_simp
      refine (O2.out _).mono ?_
      rintro e X3 ⟨rfl, hb⟩
      have hS' := hS.call hb
      have HB := Lib.hid (HB.out.below hb)
      refine hK.out _ _ hS' ?_
      clear hK K hb hS
      have hS := hS'
      clear hS'
      try simp only [Act.put, List.setIfInBounds_toArray, List.set_cons_zero, List.set_cons_succ]
      refine H.tk (i := 19) (v := ?v19x20n) ?h19x20n hS ?_
      case h19x20n => (intro w hw; go_simp; first | done | (with_reducible rfl))
      try simp only [Act.put, List.setIfInBounds_toArray, List.set_cons_zero, List.set_cons_succ]
      refine H.one (i := 22) (by simp only [List.getElem?_toArray, List.getElem?_cons_succ, List.getElem?_cons_zero]; rfl) (by kernel_rfl) (by kernel_rfl) (fun K hK => ?_)
      go_simp
      refine (O3.out _).mono ?_
      rintro e X4 ⟨rfl, hb⟩
      have hS' := hS.call hb
      have HB := Lib.hid (HB.out.below hb)
      refine hK.out _ _ hS' ?_
      clear hK K hb hS
      have hS := hS'
      clear hS'
      try simp only [Act.put, List.setIfInBounds_toArray, List.set_cons_zero, List.set_cons_succ]
      refine H.tk (i := 23) (v := ?v23x21n) ?h23x21n hS ?_
      case h23x21n => (intro w hw; go_simp; first | done | (with_reducible rfl))
      try simp only [Act.put, List.setIfInBounds_toArray, List.set_cons_zero, List.set_cons_succ]
      refine H.tk (i := 24) (v := ?v24x22n) ?h24x22n hS ?_
      case h24x22n => (intro w hw; go_simp; first | done | (with_reducible rfl))
      try simp only [Act.put, List.setIfInBounds_toArray, List.set_cons_zero, List.set_cons_succ]
      refine wpAnyH_done (by kernel_rfl) ?_ _
      go_wp2_with (first | (refine wpList_loadM (b := w.heap.size) (m := m) rfl _ rfl rfl hS.m ?_))
      refine (P2.out _ hS.i).mono ?_
      rintro r Y1 ⟨rfl, hb⟩
      have HF := Lib.hid (hS.call hb)
      clear hb
      go_wp2_with fail
      refine (P3.out _).mono ?_
      rintro r Y2 ⟨rfl, hb⟩
      have HF := Lib.hid (HF.out.call hb)
      clear hb
      go_wp2
      go_ret
      exact ⟨rfl, HF.out.bel⟩
    case wb18n =>
      go_simp
      refine (O1.out _).mono ?_
      rintro e X2 ⟨rfl, hb⟩
      have hS' := hS.call hb
      have HB := Lib.hid (HB.out.below hb)
      refine hK.out _ _ hS' ?_
      clear hK K hb hS
      have hS := hS'
      clear hS'
      try simp only [Act.put, List.setIfInBounds_toArray, List.set_cons_zero, List.set_cons_succ]
      refine H.two (i := 11) (j := 18) (by simp only [List.getElem?_toArray, List.getElem?_cons_succ, List.getElem?_cons_zero]; rfl) (by kernel_rfl) (by simp only [List.getElem?_toArray, List.getElem?_cons_succ, List.getElem?_cons_zero]; rfl) (by kernel_rfl) (by kernel_rfl) (fun K hK => ?wa23n) (fun K hK => ?wb23n)
      case wa23n =>
        refine wp_valW rfl (ex_conv (x := .tmp 30) (v := .slice (some ⟨g1, 0, none⟩) 4 4) rfl rfl (cv.out _ _ HB.out)) ?_
        refine hK.out _ _ hS ?_
        clear hK K
        try simp only [Act.put, List.setIfInBounds_toArray, List.set_cons_zero, List.set_cons_succ]
        refine H.tk (i := 15) (v := ?v15x24n) ?h15x24n hS ?_
        case h15x24n => (intro w hw; go_simp; first | done | (with_reducible rfl))
        try simp only [Act.put, List.setIfInBounds_toArray, List.set_cons_zero, List.set_cons_succ]
        refine H.one (i := 18) (by simp only [List.getElem?_toArray, List.getElem?_cons_succ, List.getElem?_cons_zero]; rfl) (by kernel_rfl) (by kernel_rfl) (fun K hK => ?_)
        go_simp
        refine (O2.out _).mono ?_
        rintro e X3 ⟨rfl, hb⟩
        have hS' := hS.call hb
        have HB := Lib.hid (HB.out.below hb)
        refine hK.out _ _ hS' ?_
        clear hK K hb hS
        have hS := hS'
        clear hS'
        try simp only [Act.put, List.setIfInBounds_toArray, List.set_cons_zero, List.set_cons_succ]
        refine H.tk (i := 19) (v := ?v19x25n) ?h19x25n hS ?_
        case h19x25n => (intro w hw; go_simp; first | done | (with_reducible rfl))
        try simp only [Act.put, List.setIfInBounds_toArray, List.set_cons_zero, List.set_cons_succ]
        refine H.one (i := 22) (by simp only [List.getElem?_toArray, List.getElem?_cons_succ, List.getElem?_cons_zero]; rfl) (by kernel_rfl) (by kernel_rfl) (fun K hK => ?_)
        go_simp
        refine (O3.out _).mono ?_
        rintro e X4 ⟨rfl, hb⟩
        have hS' := hS.call hb
        have HB := Lib.hid (HB.out.below hb)
        refine hK.out _ _ hS' ?_
        clear hK K hb hS
        have hS := hS'
        clear hS'
        try simp only [Act.put, List.setIfInBounds_toArray, List.set_cons_zero, List.set_cons_succ]
        refine H.tk (i := 23) (v := ?v23x26n) ?h23x26n hS ?_
        case h23x26n => (intro w hw; go_simp; first | done | (with_reducible rfl))
        try simp only [Act.put, List.setIfInBounds_toArray, List.set_cons_zero, List.set_cons_succ]
        refine H.tk (i := 24) (v := ?v24x27n) ?h24x27n hS ?_
        case h24x27n => (intro w hw; go_simp; first | done | (with_reducible rfl))
        try simp only [Act.put, List.setIfInBounds_toArray, List.set_cons_zero, List.set_cons_succ]
        refine wpAnyH_done (by kernel_rfl) ?_ _
        go_wp2_with (first | (refine wpList_loadM (b := w.heap.size) (m := m) rfl _ rfl rfl hS.m ?_))
        refine (P2.out _ hS.i).mono ?_
        rintro r Y1 ⟨rfl, hb⟩
        have HF := Lib.hid (hS.call hb)
        clear hb
        go_wp2_with fail
        refine (P3.out _).mono ?_
        rintro r Y2 ⟨rfl, hb⟩
        have HF := Lib.hid (HF.out.call hb)
        clear hb
        go_wp2
        go_ret
        exact ⟨rfl, HF.out.bel⟩
      case wb23n =>
        go_simp
        refine (O2.out _).mono ?_
        rintro e X3 ⟨rfl, hb⟩
        have hS' := hS.call hb
        have HB := Lib.hid (HB.out.below hb)
        refine hK.out _ _ hS' ?_
        clear hK K hb hS
        have hS := hS'
        clear hS'
        try simp only [Act.put, List.setIfInBounds_toArray, List.set_cons_zero, List.set_cons_succ]
        refine H.two (i := 11) (j := 22) (by simp only [List.getElem?_toArray, List.getElem?_cons_succ, List.getElem?_cons_zero]; rfl) (by kernel_rfl) (by simp only [List.getElem?_toArray, List.getElem?_cons_succ, List.getElem?_cons_zero]; rfl) (by kernel_rfl) (by kernel_rfl) (fun K hK => ?wa28n) (fun K hK => ?wb28n)
        case wa28n =>
          refine wp_valW rfl (ex_conv (x := .tmp 30) (v := .slice (some ⟨g1, 0, none⟩) 4 4) rfl rfl (cv.out _ _ HB.out)) ?_
          refine hK.out _ _ hS ?_
          clear hK K
          try simp only [Act.put, List.setIfInBounds_toArray, List.set_cons_zero, List.set_cons_succ]
          refine H.tk (i := 15) (v := ?v15x29n) ?h15x29n hS ?_
          case h15x29n => (intro w hw; go_simp; first | done | (with_reducible rfl))
          try simp only [Act.put, List.setIfInBounds_toArray, List.set_cons_zero, List.set_cons_succ]
          refine H.tk (i := 19) (v := ?v19x30n) ?h19x30n hS ?_
          case h19x30n => (intro w hw; go_simp; first | done | (with_reducible rfl))
          try simp only [Act.put, List.setIfInBounds_toArray, List.set_cons_zero, List.set_cons_succ]
          refine H.one (i := 22) (by simp only [List.getElem?_toArray, List.getElem?_cons_succ, List.getElem?_cons_zero]; rfl) (by kernel_rfl) (by kernel_rfl) (fun K hK => ?_)
          go_simp
          refine (O3.out _).mono ?_
          rintro e X4 ⟨rfl, hb⟩
          have hS' := hS.call hb
          have HB := Lib.hid (HB.out.below hb)
          refine hK.out _ _ hS' ?_
          clear hK K hb hS
          have hS := hS'
          clear hS'
          try simp only [Act.put, List.setIfInBounds_toArray, List.set_cons_zero, List.set_cons_succ]
          refine H.tk (i := 23) (v := ?v23x31n) ?h23x31n hS ?_
          case h23x31n => (intro w hw; go_simp; first | done | (with_reducible rfl))
          try simp only [Act.put, List.setIfInBounds_toArray, List.set_cons_zero, List.set_cons_succ]
          refine H.tk (i := 24) (v := ?v24x32n) ?h24x32n hS ?_
          case h24x32n => (intro w hw; go_simp; first | done | (with_reducible rfl))
          try simp only [Act.put, List.setIfInBounds_toArray, List.set_cons_zero, List.set_cons_succ]
          refine wpAnyH_done (by kernel_rfl) ?_ _
          go_wp2_with (first | (refine wpList_loadM (b := w.heap.size) (m := m) rfl _ rfl rfl hS.m ?_))
          refine (P2.out _ hS.i).mono ?_
          rintro r Y1 ⟨rfl, hb⟩
          have HF := Lib.hid (hS.call hb)
          clear hb
          go_wp2_with fail
          refine (P3.out _).mono ?_
          rintro r Y2 ⟨rfl, hb⟩
          have HF := Lib.hid (HF.out.call hb)
          clear hb
          go_wp2
          go_ret
          exact ⟨rfl, HF.out.bel⟩
        case wb28n =>
          go_simp
          refine (O3.out _).mono ?_
          rintro e X4 ⟨rfl, hb⟩
          have hS' := hS.call hb
          have HB := Lib.hid (HB.out.below hb)
          refine hK.out _ _ hS' ?_
          clear hK K hb hS
          have hS := hS'
          clear hS'
          try simp only [Act.put, List.setIfInBounds_toArray, List.set_cons_zero, List.set_cons_succ]
          refine H.one (i := 11) (by simp only [List.getElem?_toArray, List.getElem?_cons_succ, List.getElem?_cons_zero]; rfl) (by kernel_rfl) (by kernel_rfl) (fun K hK => ?_)
          refine wp_valW rfl (ex_conv (x := .tmp 30) (v := .slice (some ⟨g1, 0, none⟩) 4 4) rfl rfl (cv.out _ _ HB.out)) ?_
          refine hK.out _ _ hS ?_
          clear hK K
          try simp only [Act.put, List.setIfInBounds_toArray, List.set_cons_zero, List.set_cons_succ]
          refine H.tk (i := 15) (v := ?v15x33n) ?h15x33n hS ?_
          case h15x33n => (intro w hw; go_simp; first | done | (with_reducible rfl))
          try simp only [Act.put, List.setIfInBounds_toArray, List.set_cons_zero, List.set_cons_succ]
          refine H.tk (i := 19) (v := ?v19x34n) ?h19x34n hS ?_
          case h19x34n => (intro w hw; go_simp; first | done | (with_reducible rfl))
          try simp only [Act.put, List.setIfInBounds_toArray, List.set_cons_zero, List.set_cons_succ]
          refine H.tk (i := 23) (v := ?v23x35n) ?h23x35n hS ?_
          case h23x35n => (intro w hw; go_simp; first | done | (with_reducible rfl))
          try simp only [Act.put, List.setIfInBounds_toArray, List.set_cons_zero, List.set_cons_succ]
          refine H.tk (i := 24) (v := ?v24x36n) ?h24x36n hS ?_
          case h24x36n => (intro w hw; go_simp; first | done | (with_reducible rfl))
          try simp only [Act.put, List.setIfInBounds_toArray, List.set_cons_zero, List.set_cons_succ]
          refine wpAnyH_done (by kernel_rfl) ?_ _
          go_wp2_with (first | (refine wpList_loadM (b := w.heap.size) (m := m) rfl _ rfl rfl hS.m ?_))
          refine (P2.out _ hS.i).mono ?_
          rintro r Y1 ⟨rfl, hb⟩
          have HF := Lib.hid (hS.call hb)
          clear hb
          go_wp2_with fail
          refine (P3.out _).mono ?_
          rintro r Y2 ⟨rfl, hb⟩
          have HF := Lib.hid (HF.out.call hb)
          clear hb
          go_wp2
          go_ret
          exact ⟨rfl, HF.out.bel⟩
  case wb17n =>
    go_simp
    refine (O1.out _).mono ?_
    rintro e X1 ⟨rfl, hb⟩
    have hS' := hS.call hb
    refine hK.out _ _ hS' ?_
    clear hK K hb hS
    have hS := hS'
    clear hS'
    try simp only [Act.put, List.setIfInBounds_toArray, List.set_cons_zero, List.set_cons_succ]
    refine H.two (i := 10) (j := 18) (by simp only [List.getElem?_toArray, List.getElem?_cons_succ, List.getElem?_cons_zero]; rfl) (by kernel_rfl) (by simp only [List.getElem?_toArray, List.getElem?_cons_succ, List.getElem?_cons_zero]; rfl) (by kernel_rfl) (by kernel_rfl) (fun K hK => ?wa37n) (fun K hK => ?wb37n)
    case wa37n =>
      refine wp_valW rfl (ex_bs4 (a := (b0.toNat : Int)) (b := (b1.toNat : Int)) (c := (b2.toNat : Int)) (d := (b3.toNat : Int)) rfl rfl rfl rfl rfl) ?_
      have hS' := hS.call (balloc (Below.refl _ X1) (.cells #[.int .u8 (b0.toNat : Int), .int .u8 (b1.toNat : Int), .int .u8 (b2.toNat : Int), .int .u8 (b3.toNat : Int)] 5))
      refine hK.out _ _ hS' ?_
      have HB := Lib.hid (Bk.Bk.new 5 X1 #[.int .u8 (b0.toNat : Int), .int .u8 (b1.toNat : Int), .int .u8 (b2.toNat : Int), .int .u8 (b3.toNat : Int)])
      clear hK K hS
      have hS := hS'
      clear hS'
      generalize X1.alloc (.cells #[.int .u8 (b0.toNat : Int), .int .u8 (b1.toNat : Int), .int .u8 (b2.toNat : Int), .int .u8 (b3.toNat : Int)] 5) = X2 at *
      generalize X1.heap.size = g2 at *
      try simp only [Act.put, List.setIfInBounds_toArray, List.set_cons_zero, List.set_cons_succ]
      refine H.two (i := 11) (j := 18) (by simp only [List.getElem?_toArray, List.getElem?_cons_succ, List.getElem?_cons_zero]; rfl) (by kernel_rfl) (by simp only [List.getElem?_toArray, List.getElem?_cons_succ, List.getElem?_cons_zero]; rfl) (by kernel_rfl) (by kernel_rfl) (fun K hK => ?wa38n) (fun K hK => ?wb38n)
      case wa38n =>
        refine wp_valW rfl (ex_conv (x := .tmp 30) (v := .slice (some ⟨g2, 0, none⟩) 4 4) rfl rfl (cv.out _ _ HB.out)) ?_
        refine hK.out _ _ hS ?_
        clear hK K
        try simp only [Act.put, List.setIfInBounds_toArray, List.set_cons_zero, List.set_cons_succ]
        refine H.tk (i := 15) (v := ?v15x39n) ?h15x39n hS ?_
        case h15x39n => (intro w hw; go_simp; first | done | (with_reducible rfl))
        try simp only [Act.put, List.setIfInBounds_toArray, List.set_cons_zero, List.set_cons_succ]
        refine H.one (i := 18) (by simp only [List.getElem?_toArray, List.getElem?_cons_succ, List.getElem?_cons_zero]; rfl) (by kernel_rfl) (by kernel_rfl) (fun K hK => ?_)
        go_simp
        refine (O2.out _).mono ?_
        rintro e X3 ⟨rfl, hb⟩
        have hS' := hS.call hb
        have HB := Lib.hid (HB.out.below hb)
        refine hK.out _ _ hS' ?_
        clear hK K hb hS
        have hS := hS'
        clear hS'
        try simp only [Act.put, List.setIfInBounds_toArray, List.set_cons_zero, List.set_cons_succ]
        refine H.tk (i := 19) (v := ?v19x40n) ?h19x40n hS ?_
        case h19x40n => (intro w hw; go_simp; first | done | (with_reducible rfl))
        try simp only [Act.put, List.setIfInBounds_toArray, List.set_cons_zero, List.set_cons_succ]
        refine H.one (i := 22) (by simp only [List.getElem?_toArray, List.getElem?_cons_succ, List.getElem?_cons_zero]; rfl) (by kernel_rfl) (by kernel_rfl) (fun K hK => ?_)
        go_simp
        refine (O3.out _).mono ?_
        rintro e X4 ⟨rfl, hb⟩
        have hS' := hS.call hb
        have HB := Lib.hid (HB.out.below hb)
        refine hK.out _ _ hS' ?_
        clear hK K hb hS
        have hS := hS'
        clear hS'
        try simp only [Act.put, List.setIfInBounds_toArray, List.set_cons_zero, List.set_cons_succ]
        refine H.tk (i := 23) (v := ?v23x41n) ?h23x41n hS ?_
        case h23x41n => (intro w hw; go_simp; first | done | (with_reducible rfl))
        try simp only [Act.put, List.setIfInBounds_toArray, List.set_cons_zero, List.set_cons_succ]
        refine H.tk (i := 24) (v := ?v24x42n) ?h24x42n hS ?_
        case h24x42n => (intro w hw; go_simp; first | done | (with_reducible rfl))
        try simp only [Act.put, List.setIfInBounds_toArray, List.set_cons_zero, List.set_cons_succ]
        refine wpAnyH_done (by kernel_rfl) ?_ _
        go_wp2_with (first | (refine wpList_loadM (b := w.heap.size) (m := m) rfl _ rfl rfl hS.m ?_))
        refine (P2.out _ hS.i).mono ?_
        rintro r Y1 ⟨rfl, hb⟩
        have HF := Lib.hid (hS.call hb)
        clear hb
        go_wp2_with fail
        refine (P3.out _).mono ?_
        rintro r Y2 ⟨rfl, hb⟩
        have HF := Lib.hid (HF.out.call hb)
        clear hb
        go_wp2
        go_ret
        exact ⟨rfl, HF.out.bel⟩
      case wb38n =>
        go_simp
        refine (O2.out _).mono ?_
        rintro e X3 ⟨rfl, hb⟩
        have hS' := hS.call hb
        have HB := Lib.hid (HB.out.below hb)
        refine hK.out _ _ hS' ?_
        clear hK K hb hS
        have hS := hS'
        clear hS'
        try simp only [Act.put, List.setIfInBounds_toArray, List.set_cons_zero, List.set_cons_succ]
        refine H.two (i := 11) (j := 22) (by simp only [List.getElem?_toArray, List.getElem?_cons_succ, List.getElem?_cons_zero]; rfl) (by kernel_rfl) (by simp only [List.getElem?_toArray, List.getElem?_cons_succ, List.getElem?_cons_zero]; rfl) (by kernel_rfl) (by kernel_rfl) (fun K hK => ?wa43n) (fun K hK => ?wb43n)
        case wa43n =>
          refine wp_valW rfl (ex_conv (x := .tmp 30) (v := .slice (some ⟨g2, 0, none⟩) 4 4) rfl rfl (cv.out _ _ HB.out)) ?_
          refine hK.out _ _ hS ?_
          clear hK K
          try simp only [Act.put, List.setIfInBounds_toArray, List.set_cons_zero, List.set_cons_succ]
          refine H.tk (i := 15) (v := ?v15x44n) ?h15x44n hS ?_
          case h15x44n => (intro w hw; go_simp; first | done | (with_reducible rfl))
          try simp only [Act.put, List.setIfInBounds_toArray, List.set_cons_zero, List.set_cons_succ]
          refine H.tk (i := 19) (v := ?v19x45n) ?h19x45n hS ?_
          case h19x45n => (intro w hw; go_simp; first | done | (with_reducible rfl))
          try simp only [Act.put, List.setIfInBounds_toArray, List.set_cons_zero, List.set_cons_succ]
          refine H.one (i := 22) (by simp only [List.getElem?_toArray, List.getElem?_cons_succ, List.getElem?_cons_zero]; rfl) (by kernel_rfl) (by kernel_rfl) (fun K hK => ?_)
          go_simp
          refine (O3.out _).mono ?_
          rintro e X4 ⟨rfl, hb⟩
          have hS' := hS.call hb
          have HB := Lib.hid (HB.out.below hb)
          refine hK.out _ _ hS' ?_
          clear hK K hb hS
          have hS := hS'
          clear hS'
          try simp only [Act.put, List.setIfInBounds_toArray, List.set_cons_zero, List.set_cons_succ]
          refine H.tk (i := 23) (v := ?v23x46n) ?h23x46n hS ?_
          case h23x46n => (intro w hw; go_simp; first | done | (with_reducible rfl))
          try simp only [Act.put, List.setIfInBounds_toArray, List.set_cons_zero, List.set_cons_succ]
          refine H.tk (i := 24) (v := ?v24x47n) ?h24x47n hS ?_
          case h24x47n => (intro w hw; go_simp; first | done | (with_reducible rfl))
          try simp only [Act.put, List.setIfInBounds_toArray, List.set_cons_zero, List.set_cons_succ]
          refine wpAnyH_done (by kernel_rfl) ?_ _
          go_wp2_with (first | (refine wpList_loadM (b := w.heap.size) (m := m) rfl _ rfl rfl hS.m ?_))
          refine (P2.out _ hS.i).mono ?_
          rintro r Y1 ⟨rfl, hb⟩
          have HF := Lib.hid (hS.call hb)
          clear hb
          go_wp2_with fail
          refine (P3.out _).mono ?_
          rintro r Y2 ⟨rfl, hb⟩
          have HF := Lib.hid (HF.out.call hb)
          clear hb
          go_wp2
          go_ret
          exact ⟨rfl, HF.out.bel⟩
        case wb43n =>
          go_simp
          refine (O3.out _).mono ?_
          rintro e X4 ⟨rfl, hb⟩
          have hS' := hS.call hb
          have HB := Lib.hid (HB.out.below hb)
          refine hK.out _ _ hS' ?_
          clear hK K hb hS
          have hS := hS'
          clear hS'
          try simp only [Act.put, List.setIfInBounds_toArray, List.set_cons_zero, List.set_cons_succ]
          refine H.one (i := 11) (by simp only [List.getElem?_toArray, List.getElem?_cons_succ, List.getElem?_cons_zero]; rfl) (by kernel_rfl) (by kernel_rfl) (fun K hK => ?_)
          refine wp_valW rfl (ex_conv (x := .tmp 30) (v := .slice (some ⟨g2, 0, none⟩) 4 4) rfl rfl (cv.out _ _ HB.out)) ?_
          refine hK.out _ _ hS ?_
          clear hK K
          try simp only [Act.put, List.setIfInBounds_toArray, List.set_cons_zero, List.set_cons_succ]
          refine H.tk (i := 15) (v := ?v15x48n) ?h15x48n hS ?_
          case h15x48n => (intro w hw; go_simp; first | done | (with_reducible rfl))
          try simp only [Act.put, List.setIfInBounds_toArray, List.set_cons_zero, List.set_cons_succ]
          refine H.tk (i := 19) (v := ?v19x49n) ?h19x49n hS ?_
          case h19x49n => (intro w hw; go_simp; first | done | (with_reducible rfl))
          try simp only [Act.put, List.setIfInBounds_toArray, List.set_cons_zero, List.set_cons_succ]
          refine H.tk (i := 23) (v := ?v23x50n) ?h23x50n hS ?_
          case h23x50n => (intro w hw; go_simp; first | done | (with_reducible rfl))
          try simp only [Act.put, List.setIfInBounds_toArray, List.set_cons_zero, List.set_cons_succ]
          refine H.tk (i := 24) (v := ?v24x51n) ?h24x51n hS ?_
          case h24x51n => (intro w hw; go_simp; first | done | (with_reducible rfl))
          try simp only [Act.put, List.setIfInBounds_toArray, List.set_cons_zero, List.set_cons_succ]
          refine wpAnyH_done (by kernel_rfl) ?_ _
          go_wp2_with (first | (refine wpList_loadM (b := w.heap.size) (m := m) rfl _ rfl rfl hS.m ?_))
          refine (P2.out _ hS.i).mono ?_
          rintro r Y1 ⟨rfl, hb⟩
          have HF := Lib.hid (hS.call hb)
          clear hb
          go_wp2_with fail
          refine (P3.out _).mono ?_
          rintro r Y2 ⟨rfl, hb⟩
          have HF := Lib.hid (HF.out.call hb)
          clear hb
          go_wp2
          go_ret
          exact ⟨rfl, HF.out.bel⟩
    case wb37n =>
      go_simp
      refine (O2.out _).mono ?_
      rintro e X2 ⟨rfl, hb⟩
      have hS' := hS.call hb
      refine hK.out _ _ hS' ?_
      clear hK K hb hS
      have hS := hS'
      clear hS'
      try simp only [Act.put, List.setIfInBounds_toArray, List.set_cons_zero, List.set_cons_succ]
      refine H.two (i := 10) (j := 22) (by simp only [List.getElem?_toArray, List.getElem?_cons_succ, List.getElem?_cons_zero]; rfl) (by kernel_rfl) (by simp only [List.getElem?_toArray, List.getElem?_cons_succ, List.getElem?_cons_zero]; rfl) (by kernel_rfl) (by kernel_rfl) (fun K hK => ?wa52n) (fun K hK => ?wb52n)
      case wa52n =>
        refine wp_valW rfl (ex_bs4 (a := (b0.toNat : Int)) (b := (b1.toNat : Int)) (c := (b2.toNat : Int)) (d := (b3.toNat : Int)) rfl rfl rfl rfl rfl) ?_
        have hS' := hS.call (balloc (Below.refl _ X2) (.cells #[.int .u8 (b0.toNat : Int), .int .u8 (b1.toNat : Int), .int .u8 (b2.toNat : Int), .int .u8 (b3.toNat : Int)] 5))
        refine hK.out _ _ hS' ?_
        have HB := Lib.hid (Bk.Bk.new 5 X2 #[.int .u8 (b0.toNat : Int), .int .u8 (b1.toNat : Int), .int .u8 (b2.toNat : Int), .int .u8 (b3.toNat : Int)])
        clear hK K hS
        have hS := hS'
        clear hS'
        generalize X2.alloc (.cells #[.int .u8 (b0.toNat : Int), .int .u8 (b1.toNat : Int), .int .u8 (b2.toNat : Int), .int .u8 (b3.toNat : Int)] 5) = X3 at *
        generalize X2.heap.size = g3 at *
        try simp only [Act.put, List.setIfInBounds_toArray, List.set_cons_zero, List.set_cons_succ]
        refine H.two (i := 11) (j := 22) (by simp only [List.getElem?_toArray, List.getElem?_cons_succ, List.getElem?_cons_zero]; rfl) (by kernel_rfl) (by simp only [List.getElem?_toArray, List.getElem?_cons_succ, List.getElem?_cons_zero]; rfl) (by kernel_rfl) (by kernel_rfl) (fun K hK => ?wa53n) (fun K hK => ?wb53n)
        case wa53n =>
          refine wp_valW rfl (ex_conv (x := .tmp 30) (v := .slice (some ⟨g3, 0, none⟩) 4 4) rfl rfl (cv.out _ _ HB.out)) ?_
          refine hK.out _ _ hS ?_
          clear hK K
          try simp only [Act.put, List.setIfInBounds_toArray, List.set_cons_zero, List.set_cons_succ]
          refine H.tk (i := 15) (v := ?v15x54n) ?h15x54n hS ?_
          case h15x54n => (intro w hw; go_simp; first | done | (with_reducible rfl))
          try simp only [Act.put, List.setIfInBounds_toArray, List.set_cons_zero, List.set_cons_succ]
          refine H.tk (i := 19) (v := ?v19x55n) ?h19x55n hS ?_
          case h19x55n => (intro w hw; go_simp; first | done | (with_reducible rfl))
          try simp only [Act.put, List.setIfInBounds_toArray, List.set_cons_zero, List.set_cons_succ]
          refine H.one (i := 22) (by simp only [List.getElem?_toArray, List.getElem?_cons_succ, List.getElem?_cons_zero]; rfl) (by kernel_rfl) (by kernel_rfl) (fun K hK => ?_)
          go_simp
          refine (O3.out _).mono ?_
          rintro e X4 ⟨rfl, hb⟩
          have hS' := hS.call hb
          have HB := Lib.hid (HB.out.below hb)
          refine hK.out _ _ hS' ?_
          clear hK K hb hS
          have hS := hS'
          clear hS'
          try simp only [Act.put, List.setIfInBounds_toArray, List.set_cons_zero, List.set_cons_succ]
          refine H.tk (i := 23) (v := ?v23x56n) ?h23x56n hS ?_
          case h23x56n => (intro w hw; go_simp; first | done | (with_reducible rfl))
          try simp only [Act.put, List.setIfInBounds_toArray, List.set_cons_zero, List.set_cons_succ]
          refine H.tk (i := 24) (v := ?v24x57n) ?h24x57n hS ?_
          case h24x57n => (intro w hw; go_simp; first | done | (with_reducible rfl))
          try simp only [Act.put, List.setIfInBounds_toArray, List.set_cons_zero, List.set_cons_succ]
          refine wpAnyH_done (by kernel_rfl) ?_ _
          go_wp2_with (first | (refine wpList_loadM (b := w.heap.size) (m := m) rfl _ rfl rfl hS.m ?_))
          refine (P2.out _ hS.i).mono ?_
          rintro r Y1 ⟨rfl, hb⟩
          have HF := Lib.hid (hS.call hb)
          clear hb
          go_wp2_with fail
          refine (P3.out _).mono ?_
          rintro r Y2 ⟨rfl, hb⟩
          have HF := Lib.hid (HF.out.call hb)
          clear hb
          go_wp2
          go_ret
          exact ⟨rfl, HF.out.bel⟩
        case wb53n =>
          go_simp
          refine (O3.out _).mono ?_
          rintro e X4 ⟨rfl, hb⟩
          have hS' := hS.call hb
          have HB := Lib.hid (HB.out.below hb)
          refine hK.out _ _ hS' ?_
          clear hK K hb hS
          have hS := hS'
          clear hS'
          try simp only [Act.put, List.setIfInBounds_toArray, List.set_cons_zero, List.set_cons_succ]
          refine H.one (i := 11) (by simp only [List.getElem?_toArray, List.getElem?_cons_succ, List.getElem?_cons_zero]; rfl) (by kernel_rfl) (by kernel_rfl) (fun K hK => ?_)
          refine wp_valW rfl (ex_conv (x := .tmp 30) (v := .slice (some ⟨g3, 0, none⟩) 4 4) rfl rfl (cv.out _ _ HB.out)) ?_
          refine hK.out _ _ hS ?_
          clear hK K
          try simp only [Act.put, List.setIfInBounds_toArray, List.set_cons_zero, List.set_cons_succ]
          refine H.tk (i := 15) (v := ?v15x58n) ?h15x58n hS ?_
          case h15x58n => (intro w hw; go_simp; first | done | (with_reducible rfl))
          try simp only [Act.put, List.setIfInBounds_toArray, List.set_cons_zero, List.set_cons_succ]
          refine H.tk (i := 19) (v := ?v19x59n) ?h19x59n hS ?_
          case h19x59n => (intro w hw; go_simp; first | done | (with_reducible rfl))
          try simp only [Act.put, List.setIfInBounds_toArray, List.set_cons_zero, List.set_cons_succ]
          refine H.tk (i := 23) (v := ?v23x60n) ?h23x60n hS ?_
          case h23x60n => (intro w hw; go_simp; first | done | (with_reducible rfl))
          try simp only [Act.put, List.setIfInBounds_toArray, List.set_cons_zero, List.set_cons_succ]
          refine H.tk (i := 24) (v := ?v24x61n) ?h24x61n hS ?_
          case h24x61n => (intro w hw; go_simp; first | done | (with_reducible rfl))
          try simp only [Act.put, List.setIfInBounds_toArray, List.set_cons_zero, List.set_cons_succ]
          refine wpAnyH_done (by kernel_rfl) ?_ _
          go_wp2_with (first | (refine wpList_loadM (b := w.heap.size) (m := m) rfl _ rfl rfl hS.m ?_))
          refine (P2.out _ hS.i).mono ?_
          rintro r Y1 ⟨rfl, hb⟩
          have HF := Lib.hid (hS.call hb)
          clear hb
          go_wp2_with fail
          refine (P3.out _).mono ?_
          rintro r Y2 ⟨rfl, hb⟩
          have HF := Lib.hid (HF.out.call hb)
          clear hb
          go_wp2
          go_ret
          exact ⟨rfl, HF.out.bel⟩
      case wb52n =>
        go_simp
        refine (O3.out _).mono ?_
        rintro e X3 ⟨rfl, hb⟩
        have hS' := hS.call hb
        refine hK.out _ _ hS' ?_
        clear hK K hb hS
        have hS := hS'
        clear hS'
        try simp only [Act.put, List.setIfInBounds_toArray, List.set_cons_zero, List.set_cons_succ]
        refine H.one (i := 10) (by simp only [List.getElem?_toArray, List.getElem?_cons_succ, List.getElem?_cons_zero]; rfl) (by kernel_rfl) (by kernel_rfl) (fun K hK => ?_)
        refine wp_valW rfl (ex_bs4 (a := (b0.toNat : Int)) (b := (b1.toNat : Int)) (c := (b2.toNat : Int)) (d := (b3.toNat : Int)) rfl rfl rfl rfl rfl) ?_
        have hS' := hS.call (balloc (Below.refl _ X3) (.cells #[.int .u8 (b0.toNat : Int), .int .u8 (b1.toNat : Int), .int .u8 (b2.toNat : Int), .int .u8 (b3.toNat : Int)] 5))
        refine hK.out _ _ hS' ?_
        have HB := Lib.hid (Bk.Bk.new 5 X3 #[.int .u8 (b0.toNat : Int), .int .u8 (b1.toNat : Int), .int .u8 (b2.toNat : Int), .int .u8 (b3.toNat : Int)])
        clear hK K hS
        have hS := hS'
        clear hS'
        generalize X3.alloc (.cells #[.int .u8 (b0.toNat : Int), .int .u8 (b1.toNat : Int), .int .u8 (b2.toNat : Int), .int .u8 (b3.toNat : Int)] 5) = X4 at *
        generalize X3.heap.size = g4 at *
        try simp only [Act.put, List.setIfInBounds_toArray, List.set_cons_zero, List.set_cons_succ]
        refine H.one (i := 11) (by simp only [List.getElem?_toArray, List.getElem?_cons_succ, List.getElem?_cons_zero]; rfl) (by kernel_rfl) (by kernel_rfl) (fun K hK => ?_)
        refine wp_valW rfl (ex_conv (x := .tmp 30) (v := .slice (some ⟨g4, 0, none⟩) 4 4) rfl rfl (cv.out _ _ HB.out)) ?_
        refine hK.out _ _ hS ?_
        clear hK K
        try simp only [Act.put, List.setIfInBounds_toArray, List.set_cons_zero, List.set_cons_succ]
        refine H.tk (i := 15) (v := ?v15x62n) ?h15x62n hS ?_
        case h15x62n => (intro w hw; go_simp; first | done | (with_reducible rfl))
        try simp only [Act.put, List.setIfInBounds_toArray, List.set_cons_zero, List.set_cons_succ]
        refine H.tk (i := 19) (v := ?v19x63n) ?h19x63n hS ?_
        case h19x63n => (intro w hw; go_simp; first | done | (with_reducible rfl))
        try simp only [Act.put, List.setIfInBounds_toArray, List.set_cons_zero, List.set_cons_succ]
        refine H.tk (i := 23) (v := ?v23x64n) ?h23x64n hS ?_
        case h23x64n => (intro w hw; go_simp; first | done | (with_reducible rfl))
        try simp only [Act.put, List.setIfInBounds_toArray, List.set_cons_zero, List.set_cons_succ]
        refine H.tk (i := 24) (v := ?v24x65n) ?h24x65n hS ?_
        case h24x65n => (intro w hw; go_simp; first | done | (with_reducible rfl))
        try simp only [Act.put, List.setIfInBounds_toArray, List.set_cons_zero, List.set_cons_succ]
        refine wpAnyH_done (by kernel_rfl) ?_ _
        go_wp2_with (first | (refine wpList_loadM (b := w.heap.size) (m := m) rfl _ rfl rfl hS.m ?_))
        refine (P2.out _ hS.i).mono ?_
        rintro r Y1 ⟨rfl, hb⟩
        have HF := Lib.hid (hS.call hb)
        clear hb
        go_wp2_with fail
        refine (P3.out _).mono ?_
        rintro r Y2 ⟨rfl, hb⟩
        have HF := Lib.hid (HF.out.call hb)
        clear hb
        go_wp2
        go_ret
        exact ⟨rfl, HF.out.bel⟩
end Go.Proofs.YtjhfpobjbijcpaaGreatDoor.L8
