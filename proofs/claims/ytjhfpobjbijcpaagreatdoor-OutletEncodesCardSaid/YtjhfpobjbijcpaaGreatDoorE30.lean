/-
  Whether a message may be: the program's answer and the document's. Conditions: the message's lists stand in the world, and aren't long; the variable has what it is laid with.
-/
import Derived.Test.YtjhfpobjbijcpaaGreatDoorE15
import Derived.Test.YtjhfpobjbijcpaaGreatDoorE17
import Derived.Test.YtjhfpobjbijcpaaGreatDoorE22
namespace Go.Proofs.YtjhfpobjbijcpaaGreatDoor.Jr
open Go.ChangeShapes Go.WideShapes Go.ChangeAt Go.RowKit
open Go.Proofs.YtjhfpobjbijcpaaGreatDoor.Ms
open Go.Proofs.YtjhfpobjbijcpaaGreatDoor.Box
open Go.Proofs.YtjhfpobjbijcpaaGreatDoor.S1
open Go.Proofs.YtjhfpobjbijcpaaGreatDoor.J1
open Go.Proofs.YtjhfpobjbijcpaaGreatDoor.J2
open Go.Proofs.YtjhfpobjbijcpaaGreatDoor.An
open Go.Proofs.YtjhfpobjbijcpaaGreatDoor.Tc
open Go.Proofs.YtjhfpobjbijcpaaGreatDoor.Oct (fitsB)
open Go.Proofs.YtjhfpobjbijcpaaGreatDoor.Hs (run_loadM)
open Go.Proofs.YtjhfpobjbijcpaaGreatDoor.Or (st_yes)
set_option linter.unusedVariables false
set_option maxRecDepth 100000
set_option maxRecDepth 100000
theorem mbare_any (m : M) (w : World) (hm : m.In w) : Calls Tryz.prog 75 #[.agg m.cells] w fun e w' => e = .returned (.bool (bare m)) ∧ Below w.heap.size w w' := Bare.bare_any m w hm
theorem mrbare_any (m : M) (w : World) (hm : m.In w) : Calls Tryz.prog 54 #[.agg m.cells] w fun e w' => e = .returned (.bool (bare m)) ∧ Below w.heap.size w w' := Bare.rbare_any m w hm
set_option maxHeartbeats 6400000 in
theorem right_any (m : M) (w : World) (hm : m.In w) (lb : ∀ x ∈ m.sl, x.1.size ≤ 1099511627776) (hp : m.pfx.size ≤ maxLen) (ht : Tab w) : Calls Tryz.prog 74 #[.agg m.cells] w fun e w' => e = .returned (.bool (okJ m)) ∧ Below w.heap.size w w' := by
  have HF := Lib.hid (Fs.new w m hm)
  have HM := Lib.hid (ht.below (balloc (Below.refl _ w) (.cells m.cells 38)))
  have HK := Lib.hid (show okJ m = (bare m && (inB m.ae m.pfx m.plen && (okS m.sl && kindB m))) from rfl)
  have P1 := Lib.hid (fun V (h : m.In V) => mbare_any m V h)
  have P2 := Lib.hid (fun V (h : Tab V) => in_any m.ae m.pfx m.plen V hp h)
  have P3 := Lib.hid (fun V (h : m.In V) => S2.right_any m.sa m.sc m.sl V h.s h.sl lb)
  have P4 := Lib.hid (fun V => kind_any m V)
  clear lb hm ht hp
  generalize okJ m = y at *
  generalize bare m = x1 at *
  generalize inB m.ae m.pfx m.plen = x2 at *
  generalize okS m.sl = x3 at *
  generalize kindB m = x4 at *
  go_enter Tryz.func74, Tryz.ntmps74
  go_upto_region 1 with fail
  generalize w.alloc (.cells m.cells 38) = V at *
  have c5 := HF.out.m.cs.c5
  have c6 := HF.out.m.cs.c6
  have c7 := HF.out.m.cs.c7
  have c24 := HF.out.m.cs.c24
  cases x1
  · go_wp2_with (first | (refine st_yes (v := .agg (M.cells m)) (by rfl) rfl (run_loadM (x := .tmp 1) rfl rfl HF.out.m) ?_))
    refine (P1.out _ HF.out.i).mono ?_
    rintro r w' ⟨rfl, hb⟩
    have HM := Lib.hid (HM.out.below hb)
    have HF := Lib.hid (HF.out.call hb)
    clear hb c5 c6 c7 c24
    have c5 := HF.out.m.cs.c5
    have c6 := HF.out.m.cs.c6
    have c7 := HF.out.m.cs.c7
    have c24 := HF.out.m.cs.c24
    go_wp2_with (first | (refine st_yes (v := .agg (M.cells m)) (by rfl) rfl (run_loadM (x := .tmp 1) rfl rfl HF.out.m) ?_))
    go_ret
    exact ⟨J2.bool_eq HK.out.symm, HF.out.bel⟩
  cases x2
  · go_wp2_with (first | (refine st_yes (v := .agg (M.cells m)) (by rfl) rfl (run_loadM (x := .tmp 1) rfl rfl HF.out.m) ?_))
    refine (P1.out _ HF.out.i).mono ?_
    rintro r w' ⟨rfl, hb⟩
    have HM := Lib.hid (HM.out.below hb)
    have HF := Lib.hid (HF.out.call hb)
    clear hb c5 c6 c7 c24
    have c5 := HF.out.m.cs.c5
    have c6 := HF.out.m.cs.c6
    have c7 := HF.out.m.cs.c7
    have c24 := HF.out.m.cs.c24
    go_wp2_with (first | (refine st_yes (v := .agg (M.cells m)) (by rfl) rfl (run_loadM (x := .tmp 1) rfl rfl HF.out.m) ?_))
    refine (P2.out _ HM.out).mono ?_
    rintro r w' ⟨rfl, hb⟩
    have HM := Lib.hid (HM.out.below hb)
    have HF := Lib.hid (HF.out.call hb)
    clear hb c5 c6 c7 c24
    have c5 := HF.out.m.cs.c5
    have c6 := HF.out.m.cs.c6
    have c7 := HF.out.m.cs.c7
    have c24 := HF.out.m.cs.c24
    go_wp2_with (first | (refine st_yes (v := .agg (M.cells m)) (by rfl) rfl (run_loadM (x := .tmp 1) rfl rfl HF.out.m) ?_))
    go_ret
    exact ⟨J2.bool_eq HK.out.symm, HF.out.bel⟩
  cases x3
  · go_wp2_with (first | (refine st_yes (v := .agg (M.cells m)) (by rfl) rfl (run_loadM (x := .tmp 1) rfl rfl HF.out.m) ?_))
    refine (P1.out _ HF.out.i).mono ?_
    rintro r w' ⟨rfl, hb⟩
    have HM := Lib.hid (HM.out.below hb)
    have HF := Lib.hid (HF.out.call hb)
    clear hb c5 c6 c7 c24
    have c5 := HF.out.m.cs.c5
    have c6 := HF.out.m.cs.c6
    have c7 := HF.out.m.cs.c7
    have c24 := HF.out.m.cs.c24
    go_wp2_with (first | (refine st_yes (v := .agg (M.cells m)) (by rfl) rfl (run_loadM (x := .tmp 1) rfl rfl HF.out.m) ?_))
    refine (P2.out _ HM.out).mono ?_
    rintro r w' ⟨rfl, hb⟩
    have HM := Lib.hid (HM.out.below hb)
    have HF := Lib.hid (HF.out.call hb)
    clear hb c5 c6 c7 c24
    have c5 := HF.out.m.cs.c5
    have c6 := HF.out.m.cs.c6
    have c7 := HF.out.m.cs.c7
    have c24 := HF.out.m.cs.c24
    go_wp2_with (first | (refine st_yes (v := .agg (M.cells m)) (by rfl) rfl (run_loadM (x := .tmp 1) rfl rfl HF.out.m) ?_))
    refine (P3.out _ HF.out.i).mono ?_
    rintro r w' ⟨rfl, hb⟩
    have HM := Lib.hid (HM.out.below hb)
    have HF := Lib.hid (HF.out.call hb)
    clear hb c5 c6 c7 c24
    have c5 := HF.out.m.cs.c5
    have c6 := HF.out.m.cs.c6
    have c7 := HF.out.m.cs.c7
    have c24 := HF.out.m.cs.c24
    go_wp2_with (first | (refine st_yes (v := .agg (M.cells m)) (by rfl) rfl (run_loadM (x := .tmp 1) rfl rfl HF.out.m) ?_))
    go_ret
    exact ⟨J2.bool_eq HK.out.symm, HF.out.bel⟩
  go_wp2_with (first | (refine st_yes (v := .agg (M.cells m)) (by rfl) rfl (run_loadM (x := .tmp 1) rfl rfl HF.out.m) ?_))
  refine (P1.out _ HF.out.i).mono ?_
  rintro r w' ⟨rfl, hb⟩
  have HM := Lib.hid (HM.out.below hb)
  have HF := Lib.hid (HF.out.call hb)
  clear hb c5 c6 c7 c24
  have c5 := HF.out.m.cs.c5
  have c6 := HF.out.m.cs.c6
  have c7 := HF.out.m.cs.c7
  have c24 := HF.out.m.cs.c24
  go_wp2_with (first | (refine st_yes (v := .agg (M.cells m)) (by rfl) rfl (run_loadM (x := .tmp 1) rfl rfl HF.out.m) ?_))
  refine (P2.out _ HM.out).mono ?_
  rintro r w' ⟨rfl, hb⟩
  have HM := Lib.hid (HM.out.below hb)
  have HF := Lib.hid (HF.out.call hb)
  clear hb c5 c6 c7 c24
  have c5 := HF.out.m.cs.c5
  have c6 := HF.out.m.cs.c6
  have c7 := HF.out.m.cs.c7
  have c24 := HF.out.m.cs.c24
  go_wp2_with (first | (refine st_yes (v := .agg (M.cells m)) (by rfl) rfl (run_loadM (x := .tmp 1) rfl rfl HF.out.m) ?_))
  refine (P3.out _ HF.out.i).mono ?_
  rintro r w' ⟨rfl, hb⟩
  have HM := Lib.hid (HM.out.below hb)
  have HF := Lib.hid (HF.out.call hb)
  clear hb c5 c6 c7 c24
  have c5 := HF.out.m.cs.c5
  have c6 := HF.out.m.cs.c6
  have c7 := HF.out.m.cs.c7
  have c24 := HF.out.m.cs.c24
  go_wp2_with (first | (refine st_yes (v := .agg (M.cells m)) (by rfl) rfl (run_loadM (x := .tmp 1) rfl rfl HF.out.m) ?_))
  refine (P4.out _).mono ?_
  rintro r w' ⟨rfl, hb⟩
  have HM := Lib.hid (HM.out.below hb)
  have HF := Lib.hid (HF.out.call hb)
  clear hb c5 c6 c7 c24
  have c5 := HF.out.m.cs.c5
  have c6 := HF.out.m.cs.c6
  have c7 := HF.out.m.cs.c7
  have c24 := HF.out.m.cs.c24
  go_wp2_with (first | (refine st_yes (v := .agg (M.cells m)) (by rfl) rfl (run_loadM (x := .tmp 1) rfl rfl HF.out.m) ?_))
  go_ret
  exact ⟨J2.bool_eq HK.out.symm, HF.out.bel⟩
theorem fits_hops (n : Int) : fitsB n 1 = (decide (0 ≤ n) && decide (n ≤ 255)) := by
  rw [Bool.eq_iff_iff, Oct.fitsB_iff]
  simp [Oct.pw]
  omega
set_option maxHeartbeats 12800000 in
theorem rright_any (m : M) (w : World) (hm : m.In w) (lb : ∀ x ∈ m.sl, x.1.size ≤ 1099511627776) (hp : m.pfx.size ≤ maxLen) : Calls Tryz.prog 34 #[.agg m.cells] w fun e w' => e = .returned (.bool (okJ m)) ∧ Below w.heap.size w w' := by
  have HF := Lib.hid (Fs.new w m hm)
  have HK := Lib.hid (show okJ m = (bare m && (okS m.sl && (inB m.ae m.pfx m.plen && kindB m))) by unfold okJ; cases bare m <;> cases okS m.sl <;> cases inB m.ae m.pfx m.plen <;> rfl)
  have P1 := Lib.hid (fun V (h : m.In V) => mrbare_any m V h)
  have P2 := Lib.hid (fun V (h : m.In V) => S2.rright_any m.sa m.sc m.sl V h.s h.sl lb)
  have P3 := Lib.hid (fun V => rin_any m.ae m.pfx m.plen V hp)
  have P4 := Lib.hid (fun V => Oct.rfits_any m.seq 2 V)
  have HQ0 := Lib.hid (show kindB m = if m.kind = 12 then true else if m.kind = 13 then (!decide (m.ae = 0) && (fitsB m.seq 2 && (decide (m.id.size = 8) && (decide (1 ≤ m.hops) && fitsB m.hops 1)))) else false from rfl)
  have e8 : ((m.id.size : Int) == 8) = decide (m.id.size = 8) := size_eq m.id 8
  clear lb hm hp
  generalize okJ m = y at *
  generalize bare m = x1 at *
  generalize inB m.ae m.pfx m.plen = x3 at *
  generalize okS m.sl = x2 at *
  generalize kindB m = x4 at *
  go_enter Tryz.func34, Tryz.ntmps34
  go_upto_region 1 with fail
  generalize w.alloc (.cells m.cells 38) = V at *
  have c0 := HF.out.m.cs.c0
  have c5 := HF.out.m.cs.c5
  have c6 := HF.out.m.cs.c6
  have c7 := HF.out.m.cs.c7
  have c11 := HF.out.m.cs.c11
  have c12 := HF.out.m.cs.c12
  have c16 := HF.out.m.cs.c16
  have c24 := HF.out.m.cs.c24
  cases x1
  · go_wp2_with (first | (refine st_yes (v := .agg (M.cells m)) (by rfl) rfl (run_loadM (x := .tmp 1) rfl rfl HF.out.m) ?_))
    refine (P1.out _ HF.out.i).mono ?_
    rintro r w' ⟨rfl, hb⟩
    have HF := Lib.hid (HF.out.call hb)
    clear hb c0 c5 c6 c7 c11 c12 c16 c24
    have c0 := HF.out.m.cs.c0
    have c5 := HF.out.m.cs.c5
    have c6 := HF.out.m.cs.c6
    have c7 := HF.out.m.cs.c7
    have c11 := HF.out.m.cs.c11
    have c12 := HF.out.m.cs.c12
    have c16 := HF.out.m.cs.c16
    have c24 := HF.out.m.cs.c24
    go_wp2
    go_ret
    exact ⟨J2.bool_eq HK.out.symm, HF.out.bel⟩
  cases x2
  · go_wp2_with (first | (refine st_yes (v := .agg (M.cells m)) (by rfl) rfl (run_loadM (x := .tmp 1) rfl rfl HF.out.m) ?_))
    refine (P1.out _ HF.out.i).mono ?_
    rintro r w' ⟨rfl, hb⟩
    have HF := Lib.hid (HF.out.call hb)
    clear hb c0 c5 c6 c7 c11 c12 c16 c24
    have c0 := HF.out.m.cs.c0
    have c5 := HF.out.m.cs.c5
    have c6 := HF.out.m.cs.c6
    have c7 := HF.out.m.cs.c7
    have c11 := HF.out.m.cs.c11
    have c12 := HF.out.m.cs.c12
    have c16 := HF.out.m.cs.c16
    have c24 := HF.out.m.cs.c24
    go_wp2_with (first | (refine st_yes (v := .agg (M.cells m)) (by rfl) rfl (run_loadM (x := .tmp 1) rfl rfl HF.out.m) ?_))
    refine (P2.out _ HF.out.i).mono ?_
    rintro r w' ⟨rfl, hb⟩
    have HF := Lib.hid (HF.out.call hb)
    clear hb c0 c5 c6 c7 c11 c12 c16 c24
    have c0 := HF.out.m.cs.c0
    have c5 := HF.out.m.cs.c5
    have c6 := HF.out.m.cs.c6
    have c7 := HF.out.m.cs.c7
    have c11 := HF.out.m.cs.c11
    have c12 := HF.out.m.cs.c12
    have c16 := HF.out.m.cs.c16
    have c24 := HF.out.m.cs.c24
    go_wp2
    go_ret
    exact ⟨J2.bool_eq HK.out.symm, HF.out.bel⟩
  cases x3
  · go_wp2_with (first | (refine st_yes (v := .agg (M.cells m)) (by rfl) rfl (run_loadM (x := .tmp 1) rfl rfl HF.out.m) ?_))
    refine (P1.out _ HF.out.i).mono ?_
    rintro r w' ⟨rfl, hb⟩
    have HF := Lib.hid (HF.out.call hb)
    clear hb c0 c5 c6 c7 c11 c12 c16 c24
    have c0 := HF.out.m.cs.c0
    have c5 := HF.out.m.cs.c5
    have c6 := HF.out.m.cs.c6
    have c7 := HF.out.m.cs.c7
    have c11 := HF.out.m.cs.c11
    have c12 := HF.out.m.cs.c12
    have c16 := HF.out.m.cs.c16
    have c24 := HF.out.m.cs.c24
    go_wp2_with (first | (refine st_yes (v := .agg (M.cells m)) (by rfl) rfl (run_loadM (x := .tmp 1) rfl rfl HF.out.m) ?_))
    refine (P2.out _ HF.out.i).mono ?_
    rintro r w' ⟨rfl, hb⟩
    have HF := Lib.hid (HF.out.call hb)
    clear hb c0 c5 c6 c7 c11 c12 c16 c24
    have c0 := HF.out.m.cs.c0
    have c5 := HF.out.m.cs.c5
    have c6 := HF.out.m.cs.c6
    have c7 := HF.out.m.cs.c7
    have c11 := HF.out.m.cs.c11
    have c12 := HF.out.m.cs.c12
    have c16 := HF.out.m.cs.c16
    have c24 := HF.out.m.cs.c24
    go_wp2_with (first | (refine st_yes (v := .agg (M.cells m)) (by rfl) rfl (run_loadM (x := .tmp 1) rfl rfl HF.out.m) ?_))
    refine (P3.out _).mono ?_
    rintro r w' ⟨rfl, hb⟩
    have HF := Lib.hid (HF.out.call hb)
    clear hb c0 c5 c6 c7 c11 c12 c16 c24
    have c0 := HF.out.m.cs.c0
    have c5 := HF.out.m.cs.c5
    have c6 := HF.out.m.cs.c6
    have c7 := HF.out.m.cs.c7
    have c11 := HF.out.m.cs.c11
    have c12 := HF.out.m.cs.c12
    have c16 := HF.out.m.cs.c16
    have c24 := HF.out.m.cs.c24
    go_wp2
    go_ret
    exact ⟨J2.bool_eq HK.out.symm, HF.out.bel⟩
  go_wp2_with (first | (refine st_yes (v := .agg (M.cells m)) (by rfl) rfl (run_loadM (x := .tmp 1) rfl rfl HF.out.m) ?_))
  refine (P1.out _ HF.out.i).mono ?_
  rintro r w' ⟨rfl, hb⟩
  have HF := Lib.hid (HF.out.call hb)
  clear hb c0 c5 c6 c7 c11 c12 c16 c24
  have c0 := HF.out.m.cs.c0
  have c5 := HF.out.m.cs.c5
  have c6 := HF.out.m.cs.c6
  have c7 := HF.out.m.cs.c7
  have c11 := HF.out.m.cs.c11
  have c12 := HF.out.m.cs.c12
  have c16 := HF.out.m.cs.c16
  have c24 := HF.out.m.cs.c24
  go_wp2_with (first | (refine st_yes (v := .agg (M.cells m)) (by rfl) rfl (run_loadM (x := .tmp 1) rfl rfl HF.out.m) ?_))
  refine (P2.out _ HF.out.i).mono ?_
  rintro r w' ⟨rfl, hb⟩
  have HF := Lib.hid (HF.out.call hb)
  clear hb c0 c5 c6 c7 c11 c12 c16 c24
  have c0 := HF.out.m.cs.c0
  have c5 := HF.out.m.cs.c5
  have c6 := HF.out.m.cs.c6
  have c7 := HF.out.m.cs.c7
  have c11 := HF.out.m.cs.c11
  have c12 := HF.out.m.cs.c12
  have c16 := HF.out.m.cs.c16
  have c24 := HF.out.m.cs.c24
  go_wp2_with (first | (refine st_yes (v := .agg (M.cells m)) (by rfl) rfl (run_loadM (x := .tmp 1) rfl rfl HF.out.m) ?_))
  refine (P3.out _).mono ?_
  rintro r w' ⟨rfl, hb⟩
  have HF := Lib.hid (HF.out.call hb)
  clear hb c0 c5 c6 c7 c11 c12 c16 c24
  have c0 := HF.out.m.cs.c0
  have c5 := HF.out.m.cs.c5
  have c6 := HF.out.m.cs.c6
  have c7 := HF.out.m.cs.c7
  have c11 := HF.out.m.cs.c11
  have c12 := HF.out.m.cs.c12
  have c16 := HF.out.m.cs.c16
  have c24 := HF.out.m.cs.c24
  have HK := Lib.hid (show y = x4 from HK.out)
  by_cases h12 : m.kind = 12
  · have HQ := Lib.hid (show x4 = true by rw [HQ0.out, if_pos h12])
    rw [h12] at c0
    go_wp2
    go_ret
    exact ⟨J2.bool_eq (HK.out.trans HQ.out).symm, HF.out.bel⟩
  by_cases h13 : m.kind = 13
  rotate_left
  · have HQ := Lib.hid (show x4 = false by rw [HQ0.out, if_neg h12, if_neg h13])
    have e12 : (m.kind == 12) = false := by simpa using h12
    have e13 : (m.kind == 13) = false := by simpa using h13
    go_wp2
    go_ret
    exact ⟨J2.bool_eq (HK.out.trans HQ.out).symm, HF.out.bel⟩
  have HQ := Lib.hid (show x4 = (!decide (m.ae = 0) && (fitsB m.seq 2 && (decide (1 ≤ m.hops) && (decide (m.hops ≤ 255) && decide (m.id.size = 8))))) by
    rw [HQ0.out, if_neg h12, if_pos h13, fits_hops]
    by_cases a1 : 1 ≤ m.hops
    · rw [decide_eq_true a1, decide_eq_true (show 0 ≤ m.hops by omega), Bool.true_and, Bool.true_and, Bool.true_and, Bool.and_comm (decide (m.id.size = 8))]
    · rw [decide_eq_false a1, Bool.false_and, Bool.false_and, Bool.and_false])
  rw [h13] at c0
  clear h12 h13 HQ0
  by_cases h0 : m.ae = 0
  · rw [decide_eq_true h0] at HQ
    rw [h0] at c5
    clear h0
    go_wp2
    go_ret
    exact ⟨J2.bool_eq (HK.out.trans HQ.out).symm, HF.out.bel⟩
  have e0 : (m.ae == 0) = false := by simpa using h0
  have e1 : (m.ae != 0) = true := by rw [bne, e0]; rfl
  rw [decide_eq_false h0] at HQ
  clear h0
  generalize fitsB m.seq 2 = x5 at *
  generalize decide (m.id.size = 8) = x6 at *
  cases x5
  · go_wp2_with fail
    refine (P4.out _).mono ?_
    rintro r w' ⟨rfl, rfl⟩
    go_wp2
    go_ret
    exact ⟨J2.bool_eq (HK.out.trans HQ.out).symm, HF.out.bel⟩
  by_cases a1 : 1 ≤ m.hops
  rotate_left
  · rw [decide_eq_false a1] at HQ
    go_wp2_with fail
    refine (P4.out _).mono ?_
    rintro r w' ⟨rfl, rfl⟩
    go_wp2
    go_ret
    exact ⟨J2.bool_eq (HK.out.trans HQ.out).symm, HF.out.bel⟩
  by_cases a2 : m.hops ≤ 255
  rotate_left
  · rw [decide_eq_false a2, decide_eq_true a1] at HQ
    go_wp2_with fail
    refine (P4.out _).mono ?_
    rintro r w' ⟨rfl, rfl⟩
    go_wp2
    go_ret
    exact ⟨J2.bool_eq (HK.out.trans HQ.out).symm, HF.out.bel⟩
  rw [decide_eq_true a2, decide_eq_true a1] at HQ
  go_wp2_with fail
  refine (P4.out _).mono ?_
  rintro r w' ⟨rfl, rfl⟩
  go_wp2
  go_ret
  exact ⟨J2.bool_eq (HK.out.trans HQ.out).symm, HF.out.bel⟩
end Go.Proofs.YtjhfpobjbijcpaaGreatDoor.Jr
