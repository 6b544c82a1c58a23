/-
  Whether a message may be an Update with its way: the document's answer. Conditions: the message's lists stand in the world, and aren't long.
-/
import Derived.Test.YtjhfpobjbijcpaaGreatDoorE35
namespace Go.Proofs.YtjhfpobjbijcpaaGreatDoor.Kr
open Go.ChangeShapes Go.WideShapes Go.ChangeAt Go.RowKit
open Go.Proofs.YtjhfpobjbijcpaaGreatDoor.Ms
open Go.Proofs.YtjhfpobjbijcpaaGreatDoor.Box
open Go.Proofs.YtjhfpobjbijcpaaGreatDoor.S1
open Go.Proofs.YtjhfpobjbijcpaaGreatDoor.J1
open Go.Proofs.YtjhfpobjbijcpaaGreatDoor.An
open Go.Proofs.YtjhfpobjbijcpaaGreatDoor.Tc
open Go.Proofs.YtjhfpobjbijcpaaGreatDoor.K1
open Go.Proofs.YtjhfpobjbijcpaaGreatDoor.Kb
open Go.Proofs.YtjhfpobjbijcpaaGreatDoor.K2
open Go.Proofs.YtjhfpobjbijcpaaGreatDoor.J2 (int_eq nil_eq nil_em size_eq)
open Go.Proofs.YtjhfpobjbijcpaaGreatDoor.Oct (fitsB)
open Go.Proofs.YtjhfpobjbijcpaaGreatDoor.Hs
open Go.Proofs.YtjhfpobjbijcpaaGreatDoor.Or (st_yes)
set_option linter.unusedVariables false
set_option maxRecDepth 100000
set_option maxRecDepth 100000
theorem rfamily_any (a : ByteArray) (w : World) : Calls Tryz.prog 61 #[.string a] w fun e w' => e = .returned (.int .i64 (famA a)) ∧ w = w' := by
  by_cases h4 : a.size = 4
  · have HK := Lib.hid (show famA a = 0 by unfold famA; rw [if_pos h4])
    have e0 : ((a.size : Int) == 4) = true := by rw [beq_iff_eq]; omega
    clear h4
    go_enter Tryz.func61, Tryz.ntmps61
    go_wp2
    go_ret
    exact ⟨int_eq HK.out.symm, rfl⟩
  have e0 : ((a.size : Int) == 4) = false := by rw [beq_eq_false_iff_ne]; omega
  by_cases h6 : a.size = 16
  · have HK := Lib.hid (show famA a = 1 by unfold famA; rw [if_neg h4, if_pos h6])
    have e1 : ((a.size : Int) == 16) = true := by rw [beq_iff_eq]; omega
    clear h4 h6
    go_enter Tryz.func61, Tryz.ntmps61
    go_wp2
    go_ret
    exact ⟨int_eq HK.out.symm, rfl⟩
  have e1 : ((a.size : Int) == 16) = false := by rw [beq_eq_false_iff_ne]; omega
  have HK := Lib.hid (show famA a = -1 by unfold famA; rw [if_neg h4, if_neg h6])
  clear h4 h6
  go_enter Tryz.func61, Tryz.ntmps61
  go_wp2
  go_ret
  exact ⟨int_eq HK.out.symm, rfl⟩
theorem two_any (n : Int) (w : World) : Calls Tryz.prog 60 #[.int .i64 n] w fun e w' => e = .returned (.bool (fitsB n 2)) ∧ w = w' := by
  have P1 := Lib.hid (fun V => Oct.rfits_any n 2 V)
  generalize fitsB n 2 = x at *
  go_enter Tryz.func60, Tryz.ntmps60
  go_wp2_with fail
  refine (P1.out _).mono ?_
  rintro r w' ⟨rfl, rfl⟩
  go_wp2
  exact bodyPost_ret (v := .bool x) (by kernel_rfl) rfl ⟨rfl, rfl⟩
theorem rbareM_any (m : M) (w : World) (hm : m.In w) : Calls Tryz.prog 54 #[.agg m.cells] w fun e w' => e = .returned (.bool (bare m)) ∧ Below w.heap.size w w' := Bare.rbare_any m w hm
set_option maxHeartbeats 25600000 in
theorem rright_any (m : M) (w : World) (hm : m.In w) (lb : ∀ x ∈ m.sl, x.1.size ≤ 1099511627776) (hp : m.pfx.size ≤ maxLen) : Calls Tryz.prog 35 #[.agg m.cells] w fun e w' => e = .returned (.bool (okU m)) ∧ Below w.heap.size w w' := by
  have HF := Lib.hid (Fs.new w m hm)
  have HK := Lib.hid (show okU m = (decide (m.kind = 11) && (bare m && (okS m.sl && (inB m.ae m.pfx m.plen && (fitsB m.interval 2 && (fitsB m.seq 2 && (fitsB m.metric 2 && wayB m))))))) from rfl)
  have HW := Lib.hid (way_is m)
  have P1 := Lib.hid (fun V (h : m.In V) => rbareM_any m V h)
  have P2 := Lib.hid (fun V (h : m.In V) => S2.rright_any m.sa m.sc m.sl V h.s h.sl lb)
  have P3 := Lib.hid (fun V => J2.rin_any m.ae m.pfx m.plen V hp)
  have P4 := Lib.hid (fun V => two_any m.interval V)
  have P5 := Lib.hid (fun V => two_any m.seq V)
  have P6 := Lib.hid (fun V => two_any m.metric V)
  clear lb hm hp
  generalize okU m = y at *
  generalize bare m = x1 at *
  generalize okS m.sl = x2 at *
  generalize inB m.ae m.pfx m.plen = x3 at *
  generalize fitsB m.interval 2 = x4 at *
  generalize fitsB m.seq 2 = x5 at *
  generalize fitsB m.metric 2 = x6 at *
  by_cases h11 : m.kind = 11
  rotate_left
  · have e11 : (m.kind == 11) = false := by simpa using h11
    have e12 : (m.kind != 11) = true := by rw [bne, e11]; rfl
    rw [decide_eq_false h11] at HK
    go_enter Tryz.func35, Tryz.ntmps35
    go_upto_region 1 with fail
    generalize w.alloc (.cells m.cells 38) = V at *
    have c0 := HF.out.m.cs.c0
    have c5 := HF.out.m.cs.c5
    have c6 := HF.out.m.cs.c6
    have c7 := HF.out.m.cs.c7
    have c10 := HF.out.m.cs.c10
    have c12 := HF.out.m.cs.c12
    have c14 := HF.out.m.cs.c14
    have c24 := HF.out.m.cs.c24
    clear h11
    go_wp2_with (first | (refine st_yes (v := .agg (M.cells m)) (by rfl) rfl (run_loadM (x := .tmp 1) rfl rfl HF.out.m) ?_))
    exact bodyPost_ret (v := .bool false) (by kernel_rfl) rfl ⟨bool_eq HK.out.symm, HF.out.bel⟩
  rw [decide_eq_true h11] at HK
  cases x1
  · go_enter Tryz.func35, Tryz.ntmps35
    go_upto_region 1 with fail
    generalize w.alloc (.cells m.cells 38) = V at *
    have c0 := HF.out.m.cs.c0
    have c5 := HF.out.m.cs.c5
    have c6 := HF.out.m.cs.c6
    have c7 := HF.out.m.cs.c7
    have c10 := HF.out.m.cs.c10
    have c12 := HF.out.m.cs.c12
    have c14 := HF.out.m.cs.c14
    have c24 := HF.out.m.cs.c24
    rw [h11] at c0
    go_wp2_with (first | (refine st_yes (v := .agg (M.cells m)) (by rfl) rfl (run_loadM (x := .tmp 1) rfl rfl HF.out.m) ?_))
    refine (P1.out _ HF.out.i).mono ?_
    rintro r w' ⟨rfl, hb⟩
    have HF := Lib.hid (HF.out.call hb)
    clear hb c0 c5 c6 c7 c10 c12 c14 c24
    have c0 := HF.out.m.cs.c0
    have c5 := HF.out.m.cs.c5
    have c6 := HF.out.m.cs.c6
    have c7 := HF.out.m.cs.c7
    have c10 := HF.out.m.cs.c10
    have c12 := HF.out.m.cs.c12
    have c14 := HF.out.m.cs.c14
    have c24 := HF.out.m.cs.c24
    rw [h11] at c0
    go_wp2_with (first | (refine st_yes (v := .agg (M.cells m)) (by rfl) rfl (run_loadM (x := .tmp 1) rfl rfl HF.out.m) ?_))
    go_ret
    exact ⟨bool_eq HK.out.symm, HF.out.bel⟩
  cases x2
  · go_enter Tryz.func35, Tryz.ntmps35
    go_upto_region 1 with fail
    generalize w.alloc (.cells m.cells 38) = V at *
    have c0 := HF.out.m.cs.c0
    have c5 := HF.out.m.cs.c5
    have c6 := HF.out.m.cs.c6
    have c7 := HF.out.m.cs.c7
    have c10 := HF.out.m.cs.c10
    have c12 := HF.out.m.cs.c12
    have c14 := HF.out.m.cs.c14
    have c24 := HF.out.m.cs.c24
    rw [h11] at c0
    go_wp2_with (first | (refine st_yes (v := .agg (M.cells m)) (by rfl) rfl (run_loadM (x := .tmp 1) rfl rfl HF.out.m) ?_))
    refine (P1.out _ HF.out.i).mono ?_
    rintro r w' ⟨rfl, hb⟩
    have HF := Lib.hid (HF.out.call hb)
    clear hb c0 c5 c6 c7 c10 c12 c14 c24
    have c0 := HF.out.m.cs.c0
    have c5 := HF.out.m.cs.c5
    have c6 := HF.out.m.cs.c6
    have c7 := HF.out.m.cs.c7
    have c10 := HF.out.m.cs.c10
    have c12 := HF.out.m.cs.c12
    have c14 := HF.out.m.cs.c14
    have c24 := HF.out.m.cs.c24
    rw [h11] at c0
    go_wp2_with (first | (refine st_yes (v := .agg (M.cells m)) (by rfl) rfl (run_loadM (x := .tmp 1) rfl rfl HF.out.m) ?_))
    refine (P2.out _ HF.out.i).mono ?_
    rintro r w' ⟨rfl, hb⟩
    have HF := Lib.hid (HF.out.call hb)
    clear hb c0 c5 c6 c7 c10 c12 c14 c24
    have c0 := HF.out.m.cs.c0
    have c5 := HF.out.m.cs.c5
    have c6 := HF.out.m.cs.c6
    have c7 := HF.out.m.cs.c7
    have c10 := HF.out.m.cs.c10
    have c12 := HF.out.m.cs.c12
    have c14 := HF.out.m.cs.c14
    have c24 := HF.out.m.cs.c24
    rw [h11] at c0
    go_wp2_with (first | (refine st_yes (v := .agg (M.cells m)) (by rfl) rfl (run_loadM (x := .tmp 1) rfl rfl HF.out.m) ?_))
    go_ret
    exact ⟨bool_eq HK.out.symm, HF.out.bel⟩
  cases x3
  · go_enter Tryz.func35, Tryz.ntmps35
    go_upto_region 1 with fail
    generalize w.alloc (.cells m.cells 38) = V at *
    have c0 := HF.out.m.cs.c0
    have c5 := HF.out.m.cs.c5
    have c6 := HF.out.m.cs.c6
    have c7 := HF.out.m.cs.c7
    have c10 := HF.out.m.cs.c10
    have c12 := HF.out.m.cs.c12
    have c14 := HF.out.m.cs.c14
    have c24 := HF.out.m.cs.c24
    rw [h11] at c0
    go_wp2_with (first | (refine st_yes (v := .agg (M.cells m)) (by rfl) rfl (run_loadM (x := .tmp 1) rfl rfl HF.out.m) ?_))
    refine (P1.out _ HF.out.i).mono ?_
    rintro r w' ⟨rfl, hb⟩
    have HF := Lib.hid (HF.out.call hb)
    clear hb c0 c5 c6 c7 c10 c12 c14 c24
    have c0 := HF.out.m.cs.c0
    have c5 := HF.out.m.cs.c5
    have c6 := HF.out.m.cs.c6
    have c7 := HF.out.m.cs.c7
    have c10 := HF.out.m.cs.c10
    have c12 := HF.out.m.cs.c12
    have c14 := HF.out.m.cs.c14
    have c24 := HF.out.m.cs.c24
    rw [h11] at c0
    go_wp2_with (first | (refine st_yes (v := .agg (M.cells m)) (by rfl) rfl (run_loadM (x := .tmp 1) rfl rfl HF.out.m) ?_))
    refine (P2.out _ HF.out.i).mono ?_
    rintro r w' ⟨rfl, hb⟩
    have HF := Lib.hid (HF.out.call hb)
    clear hb c0 c5 c6 c7 c10 c12 c14 c24
    have c0 := HF.out.m.cs.c0
    have c5 := HF.out.m.cs.c5
    have c6 := HF.out.m.cs.c6
    have c7 := HF.out.m.cs.c7
    have c10 := HF.out.m.cs.c10
    have c12 := HF.out.m.cs.c12
    have c14 := HF.out.m.cs.c14
    have c24 := HF.out.m.cs.c24
    rw [h11] at c0
    go_wp2_with (first | (refine st_yes (v := .agg (M.cells m)) (by rfl) rfl (run_loadM (x := .tmp 1) rfl rfl HF.out.m) ?_))
    refine (P3.out _).mono ?_
    rintro r w' ⟨rfl, hb⟩
    have HF := Lib.hid (HF.out.call hb)
    clear hb c0 c5 c6 c7 c10 c12 c14 c24
    have c0 := HF.out.m.cs.c0
    have c5 := HF.out.m.cs.c5
    have c6 := HF.out.m.cs.c6
    have c7 := HF.out.m.cs.c7
    have c10 := HF.out.m.cs.c10
    have c12 := HF.out.m.cs.c12
    have c14 := HF.out.m.cs.c14
    have c24 := HF.out.m.cs.c24
    rw [h11] at c0
    go_wp2_with (first | (refine st_yes (v := .agg (M.cells m)) (by rfl) rfl (run_loadM (x := .tmp 1) rfl rfl HF.out.m) ?_))
    go_ret
    exact ⟨bool_eq HK.out.symm, HF.out.bel⟩
  cases x4
  · go_enter Tryz.func35, Tryz.ntmps35
    go_upto_region 1 with fail
    generalize w.alloc (.cells m.cells 38) = V at *
    have c0 := HF.out.m.cs.c0
    have c5 := HF.out.m.cs.c5
    have c6 := HF.out.m.cs.c6
    have c7 := HF.out.m.cs.c7
    have c10 := HF.out.m.cs.c10
    have c12 := HF.out.m.cs.c12
    have c14 := HF.out.m.cs.c14
    have c24 := HF.out.m.cs.c24
    rw [h11] at c0
    go_wp2_with (first | (refine st_yes (v := .agg (M.cells m)) (by rfl) rfl (run_loadM (x := .tmp 1) rfl rfl HF.out.m) ?_))
    refine (P1.out _ HF.out.i).mono ?_
    rintro r w' ⟨rfl, hb⟩
    have HF := Lib.hid (HF.out.call hb)
    clear hb c0 c5 c6 c7 c10 c12 c14 c24
    have c0 := HF.out.m.cs.c0
    have c5 := HF.out.m.cs.c5
    have c6 := HF.out.m.cs.c6
    have c7 := HF.out.m.cs.c7
    have c10 := HF.out.m.cs.c10
    have c12 := HF.out.m.cs.c12
    have c14 := HF.out.m.cs.c14
    have c24 := HF.out.m.cs.c24
    rw [h11] at c0
    go_wp2_with (first | (refine st_yes (v := .agg (M.cells m)) (by rfl) rfl (run_loadM (x := .tmp 1) rfl rfl HF.out.m) ?_))
    refine (P2.out _ HF.out.i).mono ?_
    rintro r w' ⟨rfl, hb⟩
    have HF := Lib.hid (HF.out.call hb)
    clear hb c0 c5 c6 c7 c10 c12 c14 c24
    have c0 := HF.out.m.cs.c0
    have c5 := HF.out.m.cs.c5
    have c6 := HF.out.m.cs.c6
    have c7 := HF.out.m.cs.c7
    have c10 := HF.out.m.cs.c10
    have c12 := HF.out.m.cs.c12
    have c14 := HF.out.m.cs.c14
    have c24 := HF.out.m.cs.c24
    rw [h11] at c0
    go_wp2_with (first | (refine st_yes (v := .agg (M.cells m)) (by rfl) rfl (run_loadM (x := .tmp 1) rfl rfl HF.out.m) ?_))
    refine (P3.out _).mono ?_
    rintro r w' ⟨rfl, hb⟩
    have HF := Lib.hid (HF.out.call hb)
    clear hb c0 c5 c6 c7 c10 c12 c14 c24
    have c0 := HF.out.m.cs.c0
    have c5 := HF.out.m.cs.c5
    have c6 := HF.out.m.cs.c6
    have c7 := HF.out.m.cs.c7
    have c10 := HF.out.m.cs.c10
    have c12 := HF.out.m.cs.c12
    have c14 := HF.out.m.cs.c14
    have c24 := HF.out.m.cs.c24
    rw [h11] at c0
    go_wp2_with (first | (refine st_yes (v := .agg (M.cells m)) (by rfl) rfl (run_loadM (x := .tmp 1) rfl rfl HF.out.m) ?_))
    refine (P4.out _).mono ?_
    rintro r w' ⟨rfl, rfl⟩
    go_wp2_with (first | (refine st_yes (v := .agg (M.cells m)) (by rfl) rfl (run_loadM (x := .tmp 1) rfl rfl HF.out.m) ?_))
    go_ret
    exact ⟨bool_eq HK.out.symm, HF.out.bel⟩
  cases x5
  · go_enter Tryz.func35, Tryz.ntmps35
    go_upto_region 1 with fail
    generalize w.alloc (.cells m.cells 38) = V at *
    have c0 := HF.out.m.cs.c0
    have c5 := HF.out.m.cs.c5
    have c6 := HF.out.m.cs.c6
    have c7 := HF.out.m.cs.c7
    have c10 := HF.out.m.cs.c10
    have c12 := HF.out.m.cs.c12
    have c14 := HF.out.m.cs.c14
    have c24 := HF.out.m.cs.c24
    rw [h11] at c0
    go_wp2_with (first | (refine st_yes (v := .agg (M.cells m)) (by rfl) rfl (run_loadM (x := .tmp 1) rfl rfl HF.out.m) ?_))
    refine (P1.out _ HF.out.i).mono ?_
    rintro r w' ⟨rfl, hb⟩
    have HF := Lib.hid (HF.out.call hb)
    clear hb c0 c5 c6 c7 c10 c12 c14 c24
    have c0 := HF.out.m.cs.c0
    have c5 := HF.out.m.cs.c5
    have c6 := HF.out.m.cs.c6
    have c7 := HF.out.m.cs.c7
    have c10 := HF.out.m.cs.c10
    have c12 := HF.out.m.cs.c12
    have c14 := HF.out.m.cs.c14
    have c24 := HF.out.m.cs.c24
    rw [h11] at c0
    go_wp2_with (first | (refine st_yes (v := .agg (M.cells m)) (by rfl) rfl (run_loadM (x := .tmp 1) rfl rfl HF.out.m) ?_))
    refine (P2.out _ HF.out.i).mono ?_
    rintro r w' ⟨rfl, hb⟩
    have HF := Lib.hid (HF.out.call hb)
    clear hb c0 c5 c6 c7 c10 c12 c14 c24
    have c0 := HF.out.m.cs.c0
    have c5 := HF.out.m.cs.c5
    have c6 := HF.out.m.cs.c6
    have c7 := HF.out.m.cs.c7
    have c10 := HF.out.m.cs.c10
    have c12 := HF.out.m.cs.c12
    have c14 := HF.out.m.cs.c14
    have c24 := HF.out.m.cs.c24
    rw [h11] at c0
    go_wp2_with (first | (refine st_yes (v := .agg (M.cells m)) (by rfl) rfl (run_loadM (x := .tmp 1) rfl rfl HF.out.m) ?_))
    refine (P3.out _).mono ?_
    rintro r w' ⟨rfl, hb⟩
    have HF := Lib.hid (HF.out.call hb)
    clear hb c0 c5 c6 c7 c10 c12 c14 c24
    have c0 := HF.out.m.cs.c0
    have c5 := HF.out.m.cs.c5
    have c6 := HF.out.m.cs.c6
    have c7 := HF.out.m.cs.c7
    have c10 := HF.out.m.cs.c10
    have c12 := HF.out.m.cs.c12
    have c14 := HF.out.m.cs.c14
    have c24 := HF.out.m.cs.c24
    rw [h11] at c0
    go_wp2_with (first | (refine st_yes (v := .agg (M.cells m)) (by rfl) rfl (run_loadM (x := .tmp 1) rfl rfl HF.out.m) ?_))
    refine (P4.out _).mono ?_
    rintro r w' ⟨rfl, rfl⟩
    go_wp2_with (first | (refine st_yes (v := .agg (M.cells m)) (by rfl) rfl (run_loadM (x := .tmp 1) rfl rfl HF.out.m) ?_))
    refine (P5.out _).mono ?_
    rintro r w' ⟨rfl, rfl⟩
    go_wp2_with (first | (refine st_yes (v := .agg (M.cells m)) (by rfl) rfl (run_loadM (x := .tmp 1) rfl rfl HF.out.m) ?_))
    go_ret
    exact ⟨bool_eq HK.out.symm, HF.out.bel⟩
  cases x6
  · go_enter Tryz.func35, Tryz.ntmps35
    go_upto_region 1 with fail
    generalize w.alloc (.cells m.cells 38) = V at *
    have c0 := HF.out.m.cs.c0
    have c5 := HF.out.m.cs.c5
    have c6 := HF.out.m.cs.c6
    have c7 := HF.out.m.cs.c7
    have c10 := HF.out.m.cs.c10
    have c12 := HF.out.m.cs.c12
    have c14 := HF.out.m.cs.c14
    have c24 := HF.out.m.cs.c24
    rw [h11] at c0
    go_wp2_with (first | (refine st_yes (v := .agg (M.cells m)) (by rfl) rfl (run_loadM (x := .tmp 1) rfl rfl HF.out.m) ?_))
    refine (P1.out _ HF.out.i).mono ?_
    rintro r w' ⟨rfl, hb⟩
    have HF := Lib.hid (HF.out.call hb)
    clear hb c0 c5 c6 c7 c10 c12 c14 c24
    have c0 := HF.out.m.cs.c0
    have c5 := HF.out.m.cs.c5
    have c6 := HF.out.m.cs.c6
    have c7 := HF.out.m.cs.c7
    have c10 := HF.out.m.cs.c10
    have c12 := HF.out.m.cs.c12
    have c14 := HF.out.m.cs.c14
    have c24 := HF.out.m.cs.c24
    rw [h11] at c0
    go_wp2_with (first | (refine st_yes (v := .agg (M.cells m)) (by rfl) rfl (run_loadM (x := .tmp 1) rfl rfl HF.out.m) ?_))
    refine (P2.out _ HF.out.i).mono ?_
    rintro r w' ⟨rfl, hb⟩
    have HF := Lib.hid (HF.out.call hb)
    clear hb c0 c5 c6 c7 c10 c12 c14 c24
    have c0 := HF.out.m.cs.c0
    have c5 := HF.out.m.cs.c5
    have c6 := HF.out.m.cs.c6
    have c7 := HF.out.m.cs.c7
    have c10 := HF.out.m.cs.c10
    have c12 := HF.out.m.cs.c12
    have c14 := HF.out.m.cs.c14
    have c24 := HF.out.m.cs.c24
    rw [h11] at c0
    go_wp2_with (first | (refine st_yes (v := .agg (M.cells m)) (by rfl) rfl (run_loadM (x := .tmp 1) rfl rfl HF.out.m) ?_))
    refine (P3.out _).mono ?_
    rintro r w' ⟨rfl, hb⟩
    have HF := Lib.hid (HF.out.call hb)
    clear hb c0 c5 c6 c7 c10 c12 c14 c24
    have c0 := HF.out.m.cs.c0
    have c5 := HF.out.m.cs.c5
    have c6 := HF.out.m.cs.c6
    have c7 := HF.out.m.cs.c7
    have c10 := HF.out.m.cs.c10
    have c12 := HF.out.m.cs.c12
    have c14 := HF.out.m.cs.c14
    have c24 := HF.out.m.cs.c24
    rw [h11] at c0
    go_wp2_with (first | (refine st_yes (v := .agg (M.cells m)) (by rfl) rfl (run_loadM (x := .tmp 1) rfl rfl HF.out.m) ?_))
    refine (P4.out _).mono ?_
    rintro r w' ⟨rfl, rfl⟩
    go_wp2_with (first | (refine st_yes (v := .agg (M.cells m)) (by rfl) rfl (run_loadM (x := .tmp 1) rfl rfl HF.out.m) ?_))
    refine (P5.out _).mono ?_
    rintro r w' ⟨rfl, rfl⟩
    go_wp2_with (first | (refine st_yes (v := .agg (M.cells m)) (by rfl) rfl (run_loadM (x := .tmp 1) rfl rfl HF.out.m) ?_))
    refine (P6.out _).mono ?_
    rintro r w' ⟨rfl, rfl⟩
    go_wp2_with (first | (refine st_yes (v := .agg (M.cells m)) (by rfl) rfl (run_loadM (x := .tmp 1) rfl rfl HF.out.m) ?_))
    go_ret
    exact ⟨bool_eq HK.out.symm, HF.out.bel⟩
  have HK := Lib.hid (show y = wayB m from HK.out)
  have n1 := nil_eq m.id
  have n2 := nil_em m.id
  have n3 := nil_eq m.next
  have n4 := nil_em m.next
  go_enter Tryz.func35, Tryz.ntmps35
  go_upto_region 1 with fail
  generalize w.alloc (.cells m.cells 38) = V at *
  have c0 := HF.out.m.cs.c0
  have c5 := HF.out.m.cs.c5
  have c6 := HF.out.m.cs.c6
  have c7 := HF.out.m.cs.c7
  have c10 := HF.out.m.cs.c10
  have c12 := HF.out.m.cs.c12
  have c14 := HF.out.m.cs.c14
  have c24 := HF.out.m.cs.c24
  rw [h11] at c0
  go_wp2_with (first | (refine st_yes (v := .agg (M.cells m)) (by rfl) rfl (run_loadM (x := .tmp 1) rfl rfl HF.out.m) ?_))
  refine (P1.out _ HF.out.i).mono ?_
  rintro r w' ⟨rfl, hb⟩
  have HF := Lib.hid (HF.out.call hb)
  clear hb c0 c5 c6 c7 c10 c12 c14 c24
  have c0 := HF.out.m.cs.c0
  have c5 := HF.out.m.cs.c5
  have c6 := HF.out.m.cs.c6
  have c7 := HF.out.m.cs.c7
  have c10 := HF.out.m.cs.c10
  have c12 := HF.out.m.cs.c12
  have c14 := HF.out.m.cs.c14
  have c24 := HF.out.m.cs.c24
  rw [h11] at c0
  go_wp2_with (first | (refine st_yes (v := .agg (M.cells m)) (by rfl) rfl (run_loadM (x := .tmp 1) rfl rfl HF.out.m) ?_))
  refine (P2.out _ HF.out.i).mono ?_
  rintro r w' ⟨rfl, hb⟩
  have HF := Lib.hid (HF.out.call hb)
  clear hb c0 c5 c6 c7 c10 c12 c14 c24
  have c0 := HF.out.m.cs.c0
  have c5 := HF.out.m.cs.c5
  have c6 := HF.out.m.cs.c6
  have c7 := HF.out.m.cs.c7
  have c10 := HF.out.m.cs.c10
  have c12 := HF.out.m.cs.c12
  have c14 := HF.out.m.cs.c14
  have c24 := HF.out.m.cs.c24
  rw [h11] at c0
  go_wp2_with (first | (refine st_yes (v := .agg (M.cells m)) (by rfl) rfl (run_loadM (x := .tmp 1) rfl rfl HF.out.m) ?_))
  refine (P3.out _).mono ?_
  rintro r w' ⟨rfl, hb⟩
  have HF := Lib.hid (HF.out.call hb)
  clear hb c0 c5 c6 c7 c10 c12 c14 c24
  have c0 := HF.out.m.cs.c0
  have c5 := HF.out.m.cs.c5
  have c6 := HF.out.m.cs.c6
  have c7 := HF.out.m.cs.c7
  have c10 := HF.out.m.cs.c10
  have c12 := HF.out.m.cs.c12
  have c14 := HF.out.m.cs.c14
  have c24 := HF.out.m.cs.c24
  rw [h11] at c0
  go_wp2_with (first | (refine st_yes (v := .agg (M.cells m)) (by rfl) rfl (run_loadM (x := .tmp 1) rfl rfl HF.out.m) ?_))
  refine (P4.out _).mono ?_
  rintro r w' ⟨rfl, rfl⟩
  go_wp2_with (first | (refine st_yes (v := .agg (M.cells m)) (by rfl) rfl (run_loadM (x := .tmp 1) rfl rfl HF.out.m) ?_))
  refine (P5.out _).mono ?_
  rintro r w' ⟨rfl, rfl⟩
  go_wp2_with (first | (refine st_yes (v := .agg (M.cells m)) (by rfl) rfl (run_loadM (x := .tmp 1) rfl rfl HF.out.m) ?_))
  refine (P6.out _).mono ?_
  rintro r w' ⟨rfl, rfl⟩
  go_upto_region 3 with (first | (refine st_yes (v := .agg (M.cells m)) (by rfl) rfl (run_loadM (x := .tmp 1) rfl rfl HF.out.m) ?_))
  clear c0 c5 c6 c7 c10 c12 c14 c24 h11 P1 P2 P3 P4 P5 P6
  by_cases hm : m.metric = 65535
  · have HW := Lib.hid (HW.out.trans (if_pos hm))
    have HK := Lib.hid (HK.out.trans HW.out)
    have c9 := HF.out.m.cs.c9
    have c10 := HF.out.m.cs.c10
    have c11 := HF.out.m.cs.c11
    rw [hm] at c10
    clear hm HW
    generalize decide (m.id.size = 0) = z1 at *
    generalize decide (m.next.size = 0) = z2 at *
    cases z1
    · go_wp2
      go_ret
      exact ⟨bool_eq HK.out.symm, HF.out.bel⟩
    · go_wp2
      go_ret
      exact ⟨bool_eq HK.out.symm, HF.out.bel⟩
  have HW := Lib.hid (HW.out.trans (if_neg hm))
  have HK := Lib.hid (HK.out.trans HW.out)
  have hm2 : (m.metric == 65535) = false := by simpa using hm
  have c10 := HF.out.m.cs.c10
  go_upto_region 5 with fail
  clear c10 hm hm2 HW
  by_cases h0 : m.ae = 0
  · rw [decide_eq_true h0] at HK
    have h03 : (m.ae != 0) = false := by rw [h0]; rfl
    clear h0
    refine wp_region_held_drew (S := fun W => Bx W w.heap.size m ∧ Below w.heap.size w W) (by kernel_rfl) ⟨HF.out.m, HF.out.bel.drew⟩ (fun hS => ?_)
    clear HF
    generalize World.drew _ = X0 at *
    refine H.tk (i := 0) (v := ?v0a) ?h0a hS ?_
    case h0a => (intro w hw; go_simp; first | done | (with_reducible rfl))
    try simp only [Act.put, List.setIfInBounds_toArray, List.set_cons_zero, List.set_cons_succ]
    refine H.tk (i := 1) (v := .int .i64 m.ae) ?h1a hS ?_
    case h1a => exact (fun w hw => by have c := (hw.1).cs.c5; go_simp)
    try simp only [Act.put, List.setIfInBounds_toArray, List.set_cons_zero, List.set_cons_succ]
    refine H.tk (i := 2) (v := .bool false) ?h2a hS ?_
    case h2a => exact (fun w hw => by go_simp)
    try simp only [Act.put, List.setIfInBounds_toArray, List.set_cons_zero, List.set_cons_succ]
    refine H.tk (i := 3) (v := (.bool false)) (fun w _ => rfl) hS ?_
    try simp only [Act.put, List.setIfInBounds_toArray, List.set_cons_zero, List.set_cons_succ]
    refine H.sk (i := 4) (d := 60) hS ?_
    try simp only [Act.put, List.setIfInBounds_toArray, List.set_cons_zero, List.set_cons_succ]
    refine H.sk (i := 5) (d := 61) hS ?_
    try simp only [Act.put, List.setIfInBounds_toArray, List.set_cons_zero, List.set_cons_succ]
    refine H.sk (i := 6) (d := 62) hS ?_
    try simp only [Act.put, List.setIfInBounds_toArray, List.set_cons_zero, List.set_cons_succ]
    refine H.sk (i := 7) (d := 63) hS ?_
    try simp only [Act.put, List.setIfInBounds_toArray, List.set_cons_zero, List.set_cons_succ]
    refine H.tk (i := 8) (v := .bool false) ?h8a hS ?_
    case h8a => exact (fun w hw => by go_simp)
    try simp only [Act.put, List.setIfInBounds_toArray, List.set_cons_zero, List.set_cons_succ]
    refine H.tk (i := 9) (v := (.bool false)) (fun w _ => rfl) hS ?_
    try simp only [Act.put, List.setIfInBounds_toArray, List.set_cons_zero, List.set_cons_succ]
    refine H.sk (i := 10) (d := 66) hS ?_
    try simp only [Act.put, List.setIfInBounds_toArray, List.set_cons_zero, List.set_cons_succ]
    refine H.sk (i := 11) (d := 67) hS ?_
    try simp only [Act.put, List.setIfInBounds_toArray, List.set_cons_zero, List.set_cons_succ]
    refine H.sk (i := 12) (d := 68) hS ?_
    try simp only [Act.put, List.setIfInBounds_toArray, List.set_cons_zero, List.set_cons_succ]
    refine H.sk (i := 13) (d := 69) hS ?_
    try simp only [Act.put, List.setIfInBounds_toArray, List.set_cons_zero, List.set_cons_succ]
    refine H.sk (i := 14) (d := 70) hS ?_
    try simp only [Act.put, List.setIfInBounds_toArray, List.set_cons_zero, List.set_cons_succ]
    refine H.sk (i := 15) (d := 71) hS ?_
    try simp only [Act.put, List.setIfInBounds_toArray, List.set_cons_zero, List.set_cons_succ]
    refine H.sk (i := 16) (d := 72) hS ?_
    try simp only [Act.put, List.setIfInBounds_toArray, List.set_cons_zero, List.set_cons_succ]
    refine H.sk (i := 17) (d := 73) hS ?_
    try simp only [Act.put, List.setIfInBounds_toArray, List.set_cons_zero, List.set_cons_succ]
    refine H.sk (i := 18) (d := 74) hS ?_
    try simp only [Act.put, List.setIfInBounds_toArray, List.set_cons_zero, List.set_cons_succ]
    refine H.sk (i := 19) (d := 75) hS ?_
    try simp only [Act.put, List.setIfInBounds_toArray, List.set_cons_zero, List.set_cons_succ]
    refine H.sk (i := 20) (d := 76) hS ?_
    try simp only [Act.put, List.setIfInBounds_toArray, List.set_cons_zero, List.set_cons_succ]
    refine H.sk (i := 21) (d := 77) hS ?_
    try simp only [Act.put, List.setIfInBounds_toArray, List.set_cons_zero, List.set_cons_succ]
    refine H.tk (i := 22) (v := (Value.bool false)) (fun w _ => rfl) hS ?_
    try simp only [Act.put, List.setIfInBounds_toArray, List.set_cons_zero, List.set_cons_succ]
    refine H.tk (i := 23) (v := (Value.bool false)) (fun w _ => rfl) hS ?_
    try simp only [Act.put, List.setIfInBounds_toArray, List.set_cons_zero, List.set_cons_succ]
    refine wpAnyH_done (by kernel_rfl) ?_ _
    go_wp2
    go_ret
    exact ⟨bool_eq HK.out.symm, hS.2⟩
  have h02 : (m.ae == 0) = false := by simpa using h0
  have h03 : (m.ae != 0) = true := by rw [bne, h02]; rfl
  rw [decide_eq_false h0] at HK
  have h8 : ((m.id.size : Int) == 8) = decide (m.id.size = 8) := size_eq m.id 8
  clear h0
  generalize decide (m.id.size = 8) = z3 at *
  cases z3
  · refine wp_region_held_drew (S := fun W => Bx W w.heap.size m ∧ Below w.heap.size w W) (by kernel_rfl) ⟨HF.out.m, HF.out.bel.drew⟩ (fun hS => ?_)
    clear HF
    generalize World.drew _ = X0 at *
    refine H.tk (i := 0) (v := ?v0b) ?h0b hS ?_
    case h0b => (intro w hw; go_simp; first | done | (with_reducible rfl))
    try simp only [Act.put, List.setIfInBounds_toArray, List.set_cons_zero, List.set_cons_succ]
    refine H.tk (i := 1) (v := .int .i64 m.ae) ?h1b hS ?_
    case h1b => exact (fun w hw => by have c := (hw.1).cs.c5; go_simp)
    try simp only [Act.put, List.setIfInBounds_toArray, List.set_cons_zero, List.set_cons_succ]
    refine H.tk (i := 2) (v := .bool true) ?h2b hS ?_
    case h2b => exact (fun w hw => by go_simp)
    try simp only [Act.put, List.setIfInBounds_toArray, List.set_cons_zero, List.set_cons_succ]
    refine H.tk (i := 3) (v := (.bool true)) (fun w _ => rfl) hS ?_
    try simp only [Act.put, List.setIfInBounds_toArray, List.set_cons_zero, List.set_cons_succ]
    refine H.tk (i := 4) (v := ?v4b) ?h4b hS ?_
    case h4b => (intro w hw; go_simp; first | done | (with_reducible rfl))
    try simp only [Act.put, List.setIfInBounds_toArray, List.set_cons_zero, List.set_cons_succ]
    refine H.tk (i := 5) (v := .string m.id) ?h5b hS ?_
    case h5b => exact (fun w hw => by have c := (hw.1).cs.c11; go_simp)
    try simp only [Act.put, List.setIfInBounds_toArray, List.set_cons_zero, List.set_cons_succ]
    refine H.tk (i := 6) (v := .int .i64 (m.id.size : Int)) ?h6b hS ?_
    case h6b => exact (fun w hw => by go_simp)
    try simp only [Act.put, List.setIfInBounds_toArray, List.set_cons_zero, List.set_cons_succ]
    refine H.tk (i := 7) (v := .bool false) ?h7b hS ?_
    case h7b => exact (fun w hw => by go_simp)
    try simp only [Act.put, List.setIfInBounds_toArray, List.set_cons_zero, List.set_cons_succ]
    refine H.tk (i := 8) (v := .bool false) ?h8b hS ?_
    case h8b => exact (fun w hw => by go_simp)
    try simp only [Act.put, List.setIfInBounds_toArray, List.set_cons_zero, List.set_cons_succ]
    refine H.tk (i := 9) (v := (.bool false)) (fun w _ => rfl) hS ?_
    try simp only [Act.put, List.setIfInBounds_toArray, List.set_cons_zero, List.set_cons_succ]
    refine H.sk (i := 10) (d := 66) hS ?_
    try simp only [Act.put, List.setIfInBounds_toArray, List.set_cons_zero, List.set_cons_succ]
    refine H.sk (i := 11) (d := 67) hS ?_
    try simp only [Act.put, List.setIfInBounds_toArray, List.set_cons_zero, List.set_cons_succ]
    refine H.sk (i := 12) (d := 68) hS ?_
    try simp only [Act.put, List.setIfInBounds_toArray, List.set_cons_zero, List.set_cons_succ]
    refine H.sk (i := 13) (d := 69) hS ?_
    try simp only [Act.put, List.setIfInBounds_toArray, List.set_cons_zero, List.set_cons_succ]
    refine H.sk (i := 14) (d := 70) hS ?_
    try simp only [Act.put, List.setIfInBounds_toArray, List.set_cons_zero, List.set_cons_succ]
    refine H.sk (i := 15) (d := 71) hS ?_
    try simp only [Act.put, List.setIfInBounds_toArray, List.set_cons_zero, List.set_cons_succ]
    refine H.sk (i := 16) (d := 72) hS ?_
    try simp only [Act.put, List.setIfInBounds_toArray, List.set_cons_zero, List.set_cons_succ]
    refine H.sk (i := 17) (d := 73) hS ?_
    try simp only [Act.put, List.setIfInBounds_toArray, List.set_cons_zero, List.set_cons_succ]
    refine H.sk (i := 18) (d := 74) hS ?_
    try simp only [Act.put, List.setIfInBounds_toArray, List.set_cons_zero, List.set_cons_succ]
    refine H.sk (i := 19) (d := 75) hS ?_
    try simp only [Act.put, List.setIfInBounds_toArray, List.set_cons_zero, List.set_cons_succ]
    refine H.sk (i := 20) (d := 76) hS ?_
    try simp only [Act.put, List.setIfInBounds_toArray, List.set_cons_zero, List.set_cons_succ]
    refine H.sk (i := 21) (d := 77) hS ?_
    try simp only [Act.put, List.setIfInBounds_toArray, List.set_cons_zero, List.set_cons_succ]
    refine H.tk (i := 22) (v := (Value.bool false)) (fun w _ => rfl) hS ?_
    try simp only [Act.put, List.setIfInBounds_toArray, List.set_cons_zero, List.set_cons_succ]
    refine H.tk (i := 23) (v := (Value.bool false)) (fun w _ => rfl) hS ?_
    try simp only [Act.put, List.setIfInBounds_toArray, List.set_cons_zero, List.set_cons_succ]
    refine wpAnyH_done (by kernel_rfl) ?_ _
    go_wp2
    go_ret
    exact ⟨bool_eq HK.out.symm, hS.2⟩
  generalize decide (m.next.size = 0) = z2 at *
  cases z2
  rotate_left
  · refine wp_region_held_drew (S := fun W => Bx W w.heap.size m ∧ Below w.heap.size w W) (by kernel_rfl) ⟨HF.out.m, HF.out.bel.drew⟩ (fun hS => ?_)
    clear HF
    generalize World.drew _ = X0 at *
    refine H.tk (i := 0) (v := ?v0c) ?h0c hS ?_
    case h0c => (intro w hw; go_simp; first | done | (with_reducible rfl))
    try simp only [Act.put, List.setIfInBounds_toArray, List.set_cons_zero, List.set_cons_succ]
    refine H.tk (i := 1) (v := .int .i64 m.ae) ?h1c hS ?_
    case h1c => exact (fun w hw => by have c := (hw.1).cs.c5; go_simp)
    try simp only [Act.put, List.setIfInBounds_toArray, List.set_cons_zero, List.set_cons_succ]
    refine H.tk (i := 2) (v := .bool true) ?h2c hS ?_
    case h2c => exact (fun w hw => by go_simp)
    try simp only [Act.put, List.setIfInBounds_toArray, List.set_cons_zero, List.set_cons_succ]
    refine H.tk (i := 3) (v := (.bool true)) (fun w _ => rfl) hS ?_
    try simp only [Act.put, List.setIfInBounds_toArray, List.set_cons_zero, List.set_cons_succ]
    refine H.tk (i := 4) (v := ?v4c) ?h4c hS ?_
    case h4c => (intro w hw; go_simp; first | done | (with_reducible rfl))
    try simp only [Act.put, List.setIfInBounds_toArray, List.set_cons_zero, List.set_cons_succ]
    refine H.tk (i := 5) (v := .string m.id) ?h5c hS ?_
    case h5c => exact (fun w hw => by have c := (hw.1).cs.c11; go_simp)
    try simp only [Act.put, List.setIfInBounds_toArray, List.set_cons_zero, List.set_cons_succ]
    refine H.tk (i := 6) (v := .int .i64 (m.id.size : Int)) ?h6c hS ?_
    case h6c => exact (fun w hw => by go_simp)
    try simp only [Act.put, List.setIfInBounds_toArray, List.set_cons_zero, List.set_cons_succ]
    refine H.tk (i := 7) (v := .bool true) ?h7c hS ?_
    case h7c => exact (fun w hw => by go_simp)
    try simp only [Act.put, List.setIfInBounds_toArray, List.set_cons_zero, List.set_cons_succ]
    refine H.tk (i := 8) (v := .bool true) ?h8c hS ?_
    case h8c => exact (fun w hw => by go_simp)
    try simp only [Act.put, List.setIfInBounds_toArray, List.set_cons_zero, List.set_cons_succ]
    refine H.tk (i := 9) (v := (.bool true)) (fun w _ => rfl) hS ?_
    try simp only [Act.put, List.setIfInBounds_toArray, List.set_cons_zero, List.set_cons_succ]
    refine H.tk (i := 10) (v := ?v10c) ?h10c hS ?_
    case h10c => (intro w hw; go_simp; first | done | (with_reducible rfl))
    try simp only [Act.put, List.setIfInBounds_toArray, List.set_cons_zero, List.set_cons_succ]
    refine H.tk (i := 11) (v := .string m.next) ?h11c hS ?_
    case h11c => exact (fun w hw => by have c := (hw.1).cs.c9; go_simp)
    try simp only [Act.put, List.setIfInBounds_toArray, List.set_cons_zero, List.set_cons_succ]
    refine H.tk (i := 12) (v := .bool true) ?h12c hS ?_
    case h12c => exact (fun w hw => by go_simp)
    try simp only [Act.put, List.setIfInBounds_toArray, List.set_cons_zero, List.set_cons_succ]
    refine H.tk (i := 13) (v := (.bool true)) (fun w _ => rfl) hS ?_
    try simp only [Act.put, List.setIfInBounds_toArray, List.set_cons_zero, List.set_cons_succ]
    refine H.sk (i := 14) (d := 70) hS ?_
    try simp only [Act.put, List.setIfInBounds_toArray, List.set_cons_zero, List.set_cons_succ]
    refine H.sk (i := 15) (d := 71) hS ?_
    try simp only [Act.put, List.setIfInBounds_toArray, List.set_cons_zero, List.set_cons_succ]
    refine H.sk (i := 16) (d := 72) hS ?_
    try simp only [Act.put, List.setIfInBounds_toArray, List.set_cons_zero, List.set_cons_succ]
    refine H.sk (i := 17) (d := 73) hS ?_
    try simp only [Act.put, List.setIfInBounds_toArray, List.set_cons_zero, List.set_cons_succ]
    refine H.sk (i := 18) (d := 74) hS ?_
    try simp only [Act.put, List.setIfInBounds_toArray, List.set_cons_zero, List.set_cons_succ]
    refine H.sk (i := 19) (d := 75) hS ?_
    try simp only [Act.put, List.setIfInBounds_toArray, List.set_cons_zero, List.set_cons_succ]
    refine H.sk (i := 20) (d := 76) hS ?_
    try simp only [Act.put, List.setIfInBounds_toArray, List.set_cons_zero, List.set_cons_succ]
    refine H.tk (i := 21) (v := (Value.bool true)) (fun w _ => rfl) hS ?_
    try simp only [Act.put, List.setIfInBounds_toArray, List.set_cons_zero, List.set_cons_succ]
    refine H.tk (i := 22) (v := (Value.bool true)) (fun w _ => rfl) hS ?_
    try simp only [Act.put, List.setIfInBounds_toArray, List.set_cons_zero, List.set_cons_succ]
    refine H.tk (i := 23) (v := (Value.bool true)) (fun w _ => rfl) hS ?_
    try simp only [Act.put, List.setIfInBounds_toArray, List.set_cons_zero, List.set_cons_succ]
    refine wpAnyH_done (by kernel_rfl) ?_ _
    go_wp2
    go_ret
    exact ⟨bool_eq HK.out.symm, hS.2⟩
  have PA := Lib.hid (fun V => rfamily_any m.next V)
  have PF := Lib.hid (fun V => rfam_any m.ae V)
  have hq : (famA m.next == fam m.ae) = decide (famA m.next = fam m.ae) := rfl
  generalize famA m.next = f at *
  generalize fam m.ae = g at *
  generalize decide (f = g) = z4 at *
  refine wp_region_held_drew (S := fun W => Bx W w.heap.size m ∧ Below w.heap.size w W) (by kernel_rfl) ⟨HF.out.m, HF.out.bel.drew⟩ (fun hS => ?_)
  clear HF
  generalize World.drew _ = X0 at *
  refine H.tk (i := 0) (v := ?v0d) ?h0d hS ?_
  case h0d => (intro w hw; go_simp; first | done | (with_reducible rfl))
  try simp only [Act.put, List.setIfInBounds_toArray, List.set_cons_zero, List.set_cons_succ]
  refine H.tk (i := 1) (v := .int .i64 m.ae) ?h1d hS ?_
  case h1d => exact (fun w hw => by have c := (hw.1).cs.c5; go_simp)
  try simp only [Act.put, List.setIfInBounds_toArray, List.set_cons_zero, List.set_cons_succ]
  refine H.tk (i := 2) (v := .bool true) ?h2d hS ?_
  case h2d => exact (fun w hw => by go_simp)
  try simp only [Act.put, List.setIfInBounds_toArray, List.set_cons_zero, List.set_cons_succ]
  refine H.tk (i := 3) (v := (.bool true)) (fun w _ => rfl) hS ?_
  try simp only [Act.put, List.setIfInBounds_toArray, List.set_cons_zero, List.set_cons_succ]
  refine H.tk (i := 4) (v := ?v4d) ?h4d hS ?_
  case h4d => (intro w hw; go_simp; first | done | (with_reducible rfl))
  try simp only [Act.put, List.setIfInBounds_toArray, List.set_cons_zero, List.set_cons_succ]
  refine H.tk (i := 5) (v := .string m.id) ?h5d hS ?_
  case h5d => exact (fun w hw => by have c := (hw.1).cs.c11; go_simp)
  try simp only [Act.put, List.setIfInBounds_toArray, List.set_cons_zero, List.set_cons_succ]
  refine H.tk (i := 6) (v := .int .i64 (m.id.size : Int)) ?h6d hS ?_
  case h6d => exact (fun w hw => by go_simp)
  try simp only [Act.put, List.setIfInBounds_toArray, List.set_cons_zero, List.set_cons_succ]
  refine H.tk (i := 7) (v := .bool true) ?h7d hS ?_
  case h7d => exact (fun w hw => by go_simp)
  try simp only [Act.put, List.setIfInBounds_toArray, List.set_cons_zero, List.set_cons_succ]
  refine H.tk (i := 8) (v := .bool true) ?h8d hS ?_
  case h8d => exact (fun w hw => by go_simp)
  try simp only [Act.put, List.setIfInBounds_toArray, List.set_cons_zero, List.set_cons_succ]
  refine H.tk (i := 9) (v := (.bool true)) (fun w _ => rfl) hS ?_
  try simp only [Act.put, List.setIfInBounds_toArray, List.set_cons_zero, List.set_cons_succ]
  refine H.tk (i := 10) (v := ?v10d) ?h10d hS ?_
  case h10d => (intro w hw; go_simp; first | done | (with_reducible rfl))
  try simp only [Act.put, List.setIfInBounds_toArray, List.set_cons_zero, List.set_cons_succ]
  refine H.tk (i := 11) (v := .string m.next) ?h11d hS ?_
  case h11d => exact (fun w hw => by have c := (hw.1).cs.c9; go_simp)
  try simp only [Act.put, List.setIfInBounds_toArray, List.set_cons_zero, List.set_cons_succ]
  refine H.tk (i := 12) (v := .bool false) ?h12d hS ?_
  case h12d => exact (fun w hw => by go_simp)
  try simp only [Act.put, List.setIfInBounds_toArray, List.set_cons_zero, List.set_cons_succ]
  refine H.tk (i := 13) (v := (.bool false)) (fun w _ => rfl) hS ?_
  try simp only [Act.put, List.setIfInBounds_toArray, List.set_cons_zero, List.set_cons_succ]
  refine H.tk (i := 14) (v := ?v14d) ?h14d hS ?_
  case h14d => (intro w hw; go_simp; first | done | (with_reducible rfl))
  try simp only [Act.put, List.setIfInBounds_toArray, List.set_cons_zero, List.set_cons_succ]
  refine H.tk (i := 15) (v := .string m.next) ?h15d hS ?_
  case h15d => exact (fun w hw => by have c := (hw.1).cs.c9; go_simp)
  try simp only [Act.put, List.setIfInBounds_toArray, List.set_cons_zero, List.set_cons_succ]
  refine H.tk (i := 17) (v := ?v17d) ?h17d hS ?_
  case h17d => (intro w hw; go_simp; first | done | (with_reducible rfl))
  try simp only [Act.put, List.setIfInBounds_toArray, List.set_cons_zero, List.set_cons_succ]
  refine H.tk (i := 18) (v := .int .i64 m.ae) ?h18d hS ?_
  case h18d => exact (fun w hw => by have c := (hw.1).cs.c5; go_simp)
  try simp only [Act.put, List.setIfInBounds_toArray, List.set_cons_zero, List.set_cons_succ]
  refine wpAnyH_ready (rs := [16]) (by kernel_rfl) (by simp) ?_
  refine AllReadyH.cons rfl (fun K hK => ?_) AllReadyH.nil
  go_simp
  refine ((PA.out _).mono (S2' hS)).mono ?_
  rintro e w16 ⟨rfl, hS16⟩
  refine hK.out _ _ hS16 (fun _ => ?_)
  clear hK K hS
  have hS := hS16
  clear hS16
  try simp only [Act.put, List.setIfInBounds_toArray, List.set_cons_zero, List.set_cons_succ]
  refine wpAnyH_ready (rs := [19]) (by kernel_rfl) (by simp) ?_
  refine AllReadyH.cons rfl (fun K hK => ?_) AllReadyH.nil
  go_simp
  refine ((PF.out _).mono (S2' hS)).mono ?_
  rintro e w19 ⟨rfl, hS19⟩
  refine hK.out _ _ hS19 (fun _ => ?_)
  clear hK K hS
  have hS := hS19
  clear hS19
  try simp only [Act.put, List.setIfInBounds_toArray, List.set_cons_zero, List.set_cons_succ]
  refine H.tk (i := 20) (v := .bool z4) ?h20d hS ?_
  case h20d => exact (fun w hw => by go_simp)
  try simp only [Act.put, List.setIfInBounds_toArray, List.set_cons_zero, List.set_cons_succ]
  refine H.tk (i := 21) (v := (.bool z4)) (fun w _ => rfl) hS ?_
  try simp only [Act.put, List.setIfInBounds_toArray, List.set_cons_zero, List.set_cons_succ]
  refine H.tk (i := 22) (v := (.bool z4)) (fun w _ => rfl) hS ?_
  try simp only [Act.put, List.setIfInBounds_toArray, List.set_cons_zero, List.set_cons_succ]
  refine H.tk (i := 23) (v := (.bool z4)) (fun w _ => rfl) hS ?_
  try simp only [Act.put, List.setIfInBounds_toArray, List.set_cons_zero, List.set_cons_succ]
  refine wpAnyH_done (by kernel_rfl) ?_ _
  go_wp2
  go_ret
  exact ⟨bool_eq HK.out.symm, hS.2⟩
end Go.Proofs.YtjhfpobjbijcpaaGreatDoor.Kr
