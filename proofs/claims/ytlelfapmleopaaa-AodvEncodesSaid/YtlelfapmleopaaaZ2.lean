/-
  Whether a route reply, or what acknowledges one, may be: the program's answer and the document's. Condition: the message's lists stand in the world, and aren't long.
-/
import Derived.Test.YtlelfapmleopaaaZ1
import Derived.Test.YtlelfapmleopaaaBare
import Derived.Test.YtlelfapmleopaaaXp
import Derived.Test.YtlelfapmleopaaaAm
namespace Go.Proofs.Ytlelfapmleopaaa.Z2
open Go.ChangeShapes Go.WideShapes Go.ChangeAt Go.RowKit
open Go.Proofs.Ytlelfapmleopaaa.Ms
open Go.Proofs.Ytlelfapmleopaaa.Box
open Go.Proofs.Ytlelfapmleopaaa.Xv
open Go.Proofs.Ytlelfapmleopaaa.Z1
open Go.Proofs.Ytlelfapmleopaaa.Am
open Go.Proofs.Ytlelfapmleopaaa.Oct (fitsB)
open Go.Proofs.Ytlelfapmleopaaa.Hs (run_loadM)
open Go.Proofs.Ytlelfapmleopaaa.Or (st_yes)
set_option linter.unusedVariables false
set_option maxRecDepth 100000
set_option maxRecDepth 100000
theorem bare_eq (m : M) : Bare.bareN m = bare m := rfl
theorem reply_eq (m : M) : reply m = ((decide (0 ≤ m.flags ∧ m.flags ≤ 3) && (decide (0 ≤ m.plen ∧ m.plen ≤ 31) && (fitsB m.hops 1 && (fitsB m.seq 4 && fitsB m.interval 4)))) && (decide (m.addr.size = 4) && decide (m.orig.size = 4))) := rfl
theorem ok_rep {m : M} (h : m.kind = 4) : okP m = (bare m && (reply m && okX m.sl)) := by
  unfold okP
  rw [decide_eq_true h, decide_eq_false (show ¬ m.kind = 6 by omega)]
  cases bare m <;> cases okX m.sl <;> cases reply m <;> rfl
theorem ok_ack {m : M} (h : m.kind = 6) : okP m = (bare m && okX m.sl) := by
  unfold okP
  rw [decide_eq_true h]
  cases bare m <;> cases okX m.sl <;> rfl
theorem ok_no {m : M} (h : ¬ m.kind = 4) (k : ¬ m.kind = 6) : okP m = false := by
  unfold okP
  rw [decide_eq_false h, decide_eq_false k]
  cases bare m <;> cases okX m.sl <;> rfl
set_option maxHeartbeats 6400000 in
theorem reply_any (m : M) (w : World) : Calls Try.prog 44 #[.agg m.cells] w fun e w' => e = .returned (.bool (reply m)) ∧ Below w.heap.size w w' := by
  have bel := balloc (Below.refl _ w) (.cells m.cells 34)
  have b0 := Bx.new w m
  have HK := Lib.hid (reply_eq m)
  have P1 := Lib.hid (fun V => Oct.fits_any m.hops 1 V)
  have P2 := Lib.hid (fun V => Oct.fits_any m.seq 4 V)
  have P3 := Lib.hid (fun V => Oct.fits_any m.interval 4 V)
  generalize reply m = y at *
  generalize fitsB m.hops 1 = x1 at *
  generalize fitsB m.seq 4 = x2 at *
  generalize fitsB m.interval 4 = x3 at *
  go_enter Try.func44, Try.ntmps44
  go_upto_region 1 with fail
  generalize w.alloc (.cells m.cells 34) = V at *
  have c7 := b0.cs.c7
  have c12 := b0.cs.c12
  have c14 := b0.cs.c14
  have c15 := b0.cs.c15
  have c16 := b0.cs.c16
  have c19 := b0.cs.c19
  have c20 := b0.cs.c20
  clear b0
  by_cases f0 : 0 ≤ m.flags
  rotate_left
  · rw [decide_eq_false (p := 0 ≤ m.flags ∧ m.flags ≤ 3) (fun h => f0 h.1)] at HK
    go_wp2
    go_ret
    exact ⟨bool_eq HK.out.symm, bel⟩
  by_cases f1 : m.flags ≤ 3
  rotate_left
  · rw [decide_eq_false (p := 0 ≤ m.flags ∧ m.flags ≤ 3) (fun h => f1 h.2)] at HK
    go_wp2
    go_ret
    exact ⟨bool_eq HK.out.symm, bel⟩
  rw [decide_eq_true (p := 0 ≤ m.flags ∧ m.flags ≤ 3) ⟨f0, f1⟩] at HK
  by_cases p0 : 0 ≤ m.plen
  rotate_left
  · rw [decide_eq_false (p := 0 ≤ m.plen ∧ m.plen ≤ 31) (fun h => p0 h.1)] at HK
    go_wp2
    go_ret
    exact ⟨bool_eq HK.out.symm, bel⟩
  by_cases p1 : m.plen ≤ 31
  rotate_left
  · rw [decide_eq_false (p := 0 ≤ m.plen ∧ m.plen ≤ 31) (fun h => p1 h.2)] at HK
    go_wp2
    go_ret
    exact ⟨bool_eq HK.out.symm, bel⟩
  rw [decide_eq_true (p := 0 ≤ m.plen ∧ m.plen ≤ 31) ⟨p0, p1⟩] at HK
  cases x1
  · go_wp2_with fail
    refine (P1.out _).mono ?_
    rintro r w' ⟨rfl, rfl⟩
    go_wp2
    go_ret
    exact ⟨bool_eq HK.out.symm, bel⟩
  cases x2
  · go_wp2_with fail
    refine (P1.out _).mono ?_
    rintro r w' ⟨rfl, rfl⟩
    go_wp2_with fail
    refine (P2.out _).mono ?_
    rintro r w' ⟨rfl, rfl⟩
    go_wp2
    go_ret
    exact ⟨bool_eq HK.out.symm, bel⟩
  cases x3
  · go_wp2_with fail
    refine (P1.out _).mono ?_
    rintro r w' ⟨rfl, rfl⟩
    go_wp2_with fail
    refine (P2.out _).mono ?_
    rintro r w' ⟨rfl, rfl⟩
    go_wp2_with fail
    refine (P3.out _).mono ?_
    rintro r w' ⟨rfl, rfl⟩
    go_wp2
    go_ret
    exact ⟨bool_eq HK.out.symm, bel⟩
  by_cases q1 : m.addr.size = 4
  rotate_left
  · rw [decide_eq_false q1] at HK
    go_wp2_with fail
    refine (P1.out _).mono ?_
    rintro r w' ⟨rfl, rfl⟩
    go_wp2_with fail
    refine (P2.out _).mono ?_
    rintro r w' ⟨rfl, rfl⟩
    go_wp2_with fail
    refine (P3.out _).mono ?_
    rintro r w' ⟨rfl, rfl⟩
    go_wp2
    go_ret
    exact ⟨bool_eq HK.out.symm, bel⟩
  by_cases q2 : m.orig.size = 4
  rotate_left
  · rw [decide_eq_true q1, decide_eq_false q2] at HK
    have q3 : ((m.orig.size : Int) == 4) = false := by rw [beq_eq_false_iff_ne]; omega
    go_wp2_with fail
    refine (P1.out _).mono ?_
    rintro r w' ⟨rfl, rfl⟩
    go_wp2_with fail
    refine (P2.out _).mono ?_
    rintro r w' ⟨rfl, rfl⟩
    go_wp2_with fail
    refine (P3.out _).mono ?_
    rintro r w' ⟨rfl, rfl⟩
    go_wp2
    go_ret
    exact ⟨bool_eq HK.out.symm, bel⟩
  rw [decide_eq_true q1, decide_eq_true q2] at HK
  go_wp2_with fail
  refine (P1.out _).mono ?_
  rintro r w' ⟨rfl, rfl⟩
  go_wp2_with fail
  refine (P2.out _).mono ?_
  rintro r w' ⟨rfl, rfl⟩
  go_wp2_with fail
  refine (P3.out _).mono ?_
  rintro r w' ⟨rfl, rfl⟩
  go_wp2
  go_ret
  exact ⟨bool_eq HK.out.symm, bel⟩
set_option maxHeartbeats 6400000 in
theorem right_any (m : M) (w : World) (hm : m.In w) (lb : ∀ x ∈ m.sl, x.1.size ≤ 1099511627776) : Calls Try.prog 21 #[.agg m.cells] w fun e w' => e = .returned (.bool (okP m)) ∧ Below w.heap.size w w' := by
  have HF := Lib.hid (Fs.new w m hm)
  have P1 := Lib.hid (fun V (h : m.In V) => Bare.bare_any m V h)
  rw [bare_eq] at P1
  have P2 := Lib.hid (fun V => reply_any m V)
  have P3 := Lib.hid (fun V (h : m.In V) => Xp.right_any m.sa m.sc m.sl V h.s h.sl lb)
  clear lb hm
  by_cases h4 : m.kind = 4
  · have HY := Lib.hid (ok_rep h4)
    generalize okP m = y at *
    generalize bare m = x1 at *
    generalize reply m = x2 at *
    generalize okX m.sl = x3 at *
    go_enter Try.func21, Try.ntmps21
    go_upto_region 1 with fail
    generalize w.alloc (.cells m.cells 34) = V at *
    have c0 := HF.out.m.cs.c0
    rw [h4] at c0
    have c24 := HF.out.m.cs.c24
    cases x1
    · go_wp2_with (first | (refine st_yes (v := .agg (M.cells m)) (by rfl) rfl (run_loadM (x := .tmp 1) rfl rfl HF.out.m) ?_))
      refine (P1.out _ HF.out.i).mono ?_
      rintro r w' ⟨rfl, hb⟩
      have HF := Lib.hid (HF.out.call hb)
      clear hb c24
      have c24 := HF.out.m.cs.c24
      go_wp2_with (first | (refine st_yes (v := .agg (M.cells m)) (by rfl) rfl (run_loadM (x := .tmp 1) rfl rfl HF.out.m) ?_))
      go_ret
      exact ⟨bool_eq HY.out.symm, HF.out.bel⟩
    cases x2
    · go_wp2_with (first | (refine st_yes (v := .agg (M.cells m)) (by rfl) rfl (run_loadM (x := .tmp 1) rfl rfl HF.out.m) ?_))
      refine (P1.out _ HF.out.i).mono ?_
      rintro r w' ⟨rfl, hb⟩
      have HF := Lib.hid (HF.out.call hb)
      clear hb c24
      have c24 := HF.out.m.cs.c24
      go_wp2_with (first | (refine st_yes (v := .agg (M.cells m)) (by rfl) rfl (run_loadM (x := .tmp 1) rfl rfl HF.out.m) ?_))
      refine (P2.out _).mono ?_
      rintro r w' ⟨rfl, hb⟩
      have HF := Lib.hid (HF.out.call hb)
      clear hb c24
      have c24 := HF.out.m.cs.c24
      go_wp2_with (first | (refine st_yes (v := .agg (M.cells m)) (by rfl) rfl (run_loadM (x := .tmp 1) rfl rfl HF.out.m) ?_))
      go_ret
      exact ⟨bool_eq HY.out.symm, HF.out.bel⟩
    go_wp2_with (first | (refine st_yes (v := .agg (M.cells m)) (by rfl) rfl (run_loadM (x := .tmp 1) rfl rfl HF.out.m) ?_))
    refine (P1.out _ HF.out.i).mono ?_
    rintro r w' ⟨rfl, hb⟩
    have HF := Lib.hid (HF.out.call hb)
    clear hb c24
    have c24 := HF.out.m.cs.c24
    go_wp2_with (first | (refine st_yes (v := .agg (M.cells m)) (by rfl) rfl (run_loadM (x := .tmp 1) rfl rfl HF.out.m) ?_))
    refine (P2.out _).mono ?_
    rintro r w' ⟨rfl, hb⟩
    have HF := Lib.hid (HF.out.call hb)
    clear hb c24
    have c24 := HF.out.m.cs.c24
    go_wp2_with (first | (refine st_yes (v := .agg (M.cells m)) (by rfl) rfl (run_loadM (x := .tmp 1) rfl rfl HF.out.m) ?_))
    refine (P3.out _ HF.out.i).mono ?_
    rintro r w' ⟨rfl, hb⟩
    have HF := Lib.hid (HF.out.call hb)
    clear hb c24
    have c24 := HF.out.m.cs.c24
    go_wp2_with (first | (refine st_yes (v := .agg (M.cells m)) (by rfl) rfl (run_loadM (x := .tmp 1) rfl rfl HF.out.m) ?_))
    go_ret
    exact ⟨bool_eq HY.out.symm, HF.out.bel⟩
  by_cases h6 : m.kind = 6
  · have HY := Lib.hid (ok_ack h6)
    generalize okP m = y at *
    generalize bare m = x1 at *
    generalize okX m.sl = x3 at *
    clear P2 h4
    go_enter Try.func21, Try.ntmps21
    go_upto_region 1 with fail
    generalize w.alloc (.cells m.cells 34) = V at *
    have c0 := HF.out.m.cs.c0
    rw [h6] at c0
    have c24 := HF.out.m.cs.c24
    cases x1
    · go_wp2_with (first | (refine st_yes (v := .agg (M.cells m)) (by rfl) rfl (run_loadM (x := .tmp 1) rfl rfl HF.out.m) ?_))
      refine (P1.out _ HF.out.i).mono ?_
      rintro r w' ⟨rfl, hb⟩
      have HF := Lib.hid (HF.out.call hb)
      clear hb c24
      have c24 := HF.out.m.cs.c24
      go_wp2_with (first | (refine st_yes (v := .agg (M.cells m)) (by rfl) rfl (run_loadM (x := .tmp 1) rfl rfl HF.out.m) ?_))
      go_ret
      exact ⟨bool_eq HY.out.symm, HF.out.bel⟩
    go_wp2_with (first | (refine st_yes (v := .agg (M.cells m)) (by rfl) rfl (run_loadM (x := .tmp 1) rfl rfl HF.out.m) ?_))
    refine (P1.out _ HF.out.i).mono ?_
    rintro r w' ⟨rfl, hb⟩
    have HF := Lib.hid (HF.out.call hb)
    clear hb c24
    have c24 := HF.out.m.cs.c24
    go_wp2_with (first | (refine st_yes (v := .agg (M.cells m)) (by rfl) rfl (run_loadM (x := .tmp 1) rfl rfl HF.out.m) ?_))
    refine (P3.out _ HF.out.i).mono ?_
    rintro r w' ⟨rfl, hb⟩
    have HF := Lib.hid (HF.out.call hb)
    clear hb c24
    have c24 := HF.out.m.cs.c24
    go_wp2_with (first | (refine st_yes (v := .agg (M.cells m)) (by rfl) rfl (run_loadM (x := .tmp 1) rfl rfl HF.out.m) ?_))
    go_ret
    exact ⟨bool_eq HY.out.symm, HF.out.bel⟩
  have HY := Lib.hid (ok_no h4 h6)
  clear P1 P2 P3
  go_enter Try.func21, Try.ntmps21
  go_upto_region 1 with fail
  generalize w.alloc (.cells m.cells 34) = V at *
  have c0 := HF.out.m.cs.c0
  go_wp2
  go_ret
  exact ⟨bool_eq HY.out.symm, HF.out.bel⟩
set_option maxHeartbeats 12800000 in
theorem rright_any (m : M) (w : World) (hm : m.In w) (lb : ∀ x ∈ m.sl, x.1.size ≤ 1099511627776) : Calls Try.prog 24 #[.agg m.cells] w fun e w' => e = .returned (.bool (okP m)) ∧ Below w.heap.size w w' := by
  have HF := Lib.hid (Fs.new w m hm)
  have HY := Lib.hid (show okP m = (bare m && (okX m.sl && (decide (m.kind = 6) || (decide (m.kind = 4) && reply m)))) from rfl)
  have HK := Lib.hid (reply_eq m)
  have P1 := Lib.hid (fun V (h : m.In V) => Bare.rbare_any m V h)
  rw [bare_eq] at P1
  have P2 := Lib.hid (fun V => Oct.rfits_any m.hops 1 V)
  have P3 := Lib.hid (fun V => Oct.rfits_any m.seq 4 V)
  have P4 := Lib.hid (fun V => Oct.rfits_any m.interval 4 V)
  have P5 := Lib.hid (fun V (h : m.In V) => Xp.rright_any m.sa m.sc m.sl V h.s h.sl lb)
  clear lb hm
  generalize okP m = y at *
  generalize bare m = x1 at *
  generalize reply m = z at *
  generalize fitsB m.hops 1 = x2 at *
  generalize fitsB m.seq 4 = x3 at *
  generalize fitsB m.interval 4 = x4 at *
  generalize okX m.sl = x5 at *
  go_enter Try.func24, Try.ntmps24
  go_upto_region 1 with fail
  generalize w.alloc (.cells m.cells 34) = V at *
  have c24 := HF.out.m.cs.c24
  cases x1
  · go_wp2_with (first | (refine st_yes (v := .agg (M.cells m)) (by rfl) rfl (run_loadM (x := .tmp 1) rfl rfl HF.out.m) ?_))
    refine (P1.out _ HF.out.i).mono ?_
    rintro r w' ⟨rfl, hb⟩
    have HF := Lib.hid (HF.out.call hb)
    clear hb c24
    have c24 := HF.out.m.cs.c24
    go_wp2
    go_ret
    exact ⟨bool_eq HY.out.symm, HF.out.bel⟩
  cases x5
  · go_wp2_with (first | (refine st_yes (v := .agg (M.cells m)) (by rfl) rfl (run_loadM (x := .tmp 1) rfl rfl HF.out.m) ?_))
    refine (P1.out _ HF.out.i).mono ?_
    rintro r w' ⟨rfl, hb⟩
    have HF := Lib.hid (HF.out.call hb)
    clear hb c24
    have c24 := HF.out.m.cs.c24
    go_wp2_with fail
    refine (P5.out _ HF.out.i).mono ?_
    rintro r w' ⟨rfl, hb⟩
    have HF := Lib.hid (HF.out.call hb)
    clear hb c24
    have c0 := HF.out.m.cs.c0
    have c7 := HF.out.m.cs.c7
    have c12 := HF.out.m.cs.c12
    have c14 := HF.out.m.cs.c14
    have c15 := HF.out.m.cs.c15
    have c16 := HF.out.m.cs.c16
    have c19 := HF.out.m.cs.c19
    have c20 := HF.out.m.cs.c20
    go_wp2
    go_ret
    exact ⟨bool_eq HY.out.symm, HF.out.bel⟩
  by_cases h6 : m.kind = 6
  · rw [decide_eq_true h6] at HY
    go_wp2_with (first | (refine st_yes (v := .agg (M.cells m)) (by rfl) rfl (run_loadM (x := .tmp 1) rfl rfl HF.out.m) ?_))
    refine (P1.out _ HF.out.i).mono ?_
    rintro r w' ⟨rfl, hb⟩
    have HF := Lib.hid (HF.out.call hb)
    clear hb c24
    have c24 := HF.out.m.cs.c24
    go_wp2_with fail
    refine (P5.out _ HF.out.i).mono ?_
    rintro r w' ⟨rfl, hb⟩
    have HF := Lib.hid (HF.out.call hb)
    clear hb c24
    have c0 := HF.out.m.cs.c0
    have c7 := HF.out.m.cs.c7
    have c12 := HF.out.m.cs.c12
    have c14 := HF.out.m.cs.c14
    have c15 := HF.out.m.cs.c15
    have c16 := HF.out.m.cs.c16
    have c19 := HF.out.m.cs.c19
    have c20 := HF.out.m.cs.c20
    rw [h6] at c0
    go_wp2
    go_ret
    exact ⟨bool_eq HY.out.symm, HF.out.bel⟩
  rw [decide_eq_false h6] at HY
  by_cases h4 : m.kind = 4
  rotate_left
  · rw [decide_eq_false h4] at HY
    go_wp2_with (first | (refine st_yes (v := .agg (M.cells m)) (by rfl) rfl (run_loadM (x := .tmp 1) rfl rfl HF.out.m) ?_))
    refine (P1.out _ HF.out.i).mono ?_
    rintro r w' ⟨rfl, hb⟩
    have HF := Lib.hid (HF.out.call hb)
    clear hb c24
    have c24 := HF.out.m.cs.c24
    go_wp2_with fail
    refine (P5.out _ HF.out.i).mono ?_
    rintro r w' ⟨rfl, hb⟩
    have HF := Lib.hid (HF.out.call hb)
    clear hb c24
    have c0 := HF.out.m.cs.c0
    have c7 := HF.out.m.cs.c7
    have c12 := HF.out.m.cs.c12
    have c14 := HF.out.m.cs.c14
    have c15 := HF.out.m.cs.c15
    have c16 := HF.out.m.cs.c16
    have c19 := HF.out.m.cs.c19
    have c20 := HF.out.m.cs.c20
    go_wp2
    go_ret
    exact ⟨bool_eq HY.out.symm, HF.out.bel⟩
  rw [decide_eq_true h4] at HY
  rw [HK.out] at HY
  clear HK
  by_cases f0 : 0 ≤ m.flags
  rotate_left
  · rw [decide_eq_false (p := 0 ≤ m.flags ∧ m.flags ≤ 3) (fun h => f0 h.1)] at HY
    go_wp2_with (first | (refine st_yes (v := .agg (M.cells m)) (by rfl) rfl (run_loadM (x := .tmp 1) rfl rfl HF.out.m) ?_))
    refine (P1.out _ HF.out.i).mono ?_
    rintro r w' ⟨rfl, hb⟩
    have HF := Lib.hid (HF.out.call hb)
    clear hb c24
    have c24 := HF.out.m.cs.c24
    go_wp2_with fail
    refine (P5.out _ HF.out.i).mono ?_
    rintro r w' ⟨rfl, hb⟩
    have HF := Lib.hid (HF.out.call hb)
    clear hb c24
    have c0 := HF.out.m.cs.c0
    have c7 := HF.out.m.cs.c7
    have c12 := HF.out.m.cs.c12
    have c14 := HF.out.m.cs.c14
    have c15 := HF.out.m.cs.c15
    have c16 := HF.out.m.cs.c16
    have c19 := HF.out.m.cs.c19
    have c20 := HF.out.m.cs.c20
    rw [h4] at c0
    go_wp2
    go_ret
    exact ⟨bool_eq HY.out.symm, HF.out.bel⟩
  by_cases f1 : m.flags ≤ 3
  rotate_left
  · rw [decide_eq_false (p := 0 ≤ m.flags ∧ m.flags ≤ 3) (fun h => f1 h.2)] at HY
    go_wp2_with (first | (refine st_yes (v := .agg (M.cells m)) (by rfl) rfl (run_loadM (x := .tmp 1) rfl rfl HF.out.m) ?_))
    refine (P1.out _ HF.out.i).mono ?_
    rintro r w' ⟨rfl, hb⟩
    have HF := Lib.hid (HF.out.call hb)
    clear hb c24
    have c24 := HF.out.m.cs.c24
    go_wp2_with fail
    refine (P5.out _ HF.out.i).mono ?_
    rintro r w' ⟨rfl, hb⟩
    have HF := Lib.hid (HF.out.call hb)
    clear hb c24
    have c0 := HF.out.m.cs.c0
    have c7 := HF.out.m.cs.c7
    have c12 := HF.out.m.cs.c12
    have c14 := HF.out.m.cs.c14
    have c15 := HF.out.m.cs.c15
    have c16 := HF.out.m.cs.c16
    have c19 := HF.out.m.cs.c19
    have c20 := HF.out.m.cs.c20
    rw [h4] at c0
    go_wp2
    go_ret
    exact ⟨bool_eq HY.out.symm, HF.out.bel⟩
  rw [decide_eq_true (p := 0 ≤ m.flags ∧ m.flags ≤ 3) ⟨f0, f1⟩] at HY
  by_cases p0 : 0 ≤ m.plen
  rotate_left
  · rw [decide_eq_false (p := 0 ≤ m.plen ∧ m.plen ≤ 31) (fun h => p0 h.1)] at HY
    go_wp2_with (first | (refine st_yes (v := .agg (M.cells m)) (by rfl) rfl (run_loadM (x := .tmp 1) rfl rfl HF.out.m) ?_))
    refine (P1.out _ HF.out.i).mono ?_
    rintro r w' ⟨rfl, hb⟩
    have HF := Lib.hid (HF.out.call hb)
    clear hb c24
    have c24 := HF.out.m.cs.c24
    go_wp2_with fail
    refine (P5.out _ HF.out.i).mono ?_
    rintro r w' ⟨rfl, hb⟩
    have HF := Lib.hid (HF.out.call hb)
    clear hb c24
    have c0 := HF.out.m.cs.c0
    have c7 := HF.out.m.cs.c7
    have c12 := HF.out.m.cs.c12
    have c14 := HF.out.m.cs.c14
    have c15 := HF.out.m.cs.c15
    have c16 := HF.out.m.cs.c16
    have c19 := HF.out.m.cs.c19
    have c20 := HF.out.m.cs.c20
    rw [h4] at c0
    go_wp2
    go_ret
    exact ⟨bool_eq HY.out.symm, HF.out.bel⟩
  by_cases p1 : m.plen ≤ 31
  rotate_left
  · rw [decide_eq_false (p := 0 ≤ m.plen ∧ m.plen ≤ 31) (fun h => p1 h.2)] at HY
    go_wp2_with (first | (refine st_yes (v := .agg (M.cells m)) (by rfl) rfl (run_loadM (x := .tmp 1) rfl rfl HF.out.m) ?_))
    refine (P1.out _ HF.out.i).mono ?_
    rintro r w' ⟨rfl, hb⟩
    have HF := Lib.hid (HF.out.call hb)
    clear hb c24
    have c24 := HF.out.m.cs.c24
    go_wp2_with fail
    refine (P5.out _ HF.out.i).mono ?_
    rintro r w' ⟨rfl, hb⟩
    have HF := Lib.hid (HF.out.call hb)
    clear hb c24
    have c0 := HF.out.m.cs.c0
    have c7 := HF.out.m.cs.c7
    have c12 := HF.out.m.cs.c12
    have c14 := HF.out.m.cs.c14
    have c15 := HF.out.m.cs.c15
    have c16 := HF.out.m.cs.c16
    have c19 := HF.out.m.cs.c19
    have c20 := HF.out.m.cs.c20
    rw [h4] at c0
    go_wp2
    go_ret
    exact ⟨bool_eq HY.out.symm, HF.out.bel⟩
  rw [decide_eq_true (p := 0 ≤ m.plen ∧ m.plen ≤ 31) ⟨p0, p1⟩] at HY
  cases x2
  · go_wp2_with (first | (refine st_yes (v := .agg (M.cells m)) (by rfl) rfl (run_loadM (x := .tmp 1) rfl rfl HF.out.m) ?_))
    refine (P1.out _ HF.out.i).mono ?_
    rintro r w' ⟨rfl, hb⟩
    have HF := Lib.hid (HF.out.call hb)
    clear hb c24
    have c24 := HF.out.m.cs.c24
    go_wp2_with fail
    refine (P5.out _ HF.out.i).mono ?_
    rintro r w' ⟨rfl, hb⟩
    have HF := Lib.hid (HF.out.call hb)
    clear hb c24
    have c0 := HF.out.m.cs.c0
    have c7 := HF.out.m.cs.c7
    have c12 := HF.out.m.cs.c12
    have c14 := HF.out.m.cs.c14
    have c15 := HF.out.m.cs.c15
    have c16 := HF.out.m.cs.c16
    have c19 := HF.out.m.cs.c19
    have c20 := HF.out.m.cs.c20
    rw [h4] at c0
    go_wp2_with fail
    refine (P2.out _).mono ?_
    rintro r w' ⟨rfl, rfl⟩
    go_wp2
    go_ret
    exact ⟨bool_eq HY.out.symm, HF.out.bel⟩
  cases x3
  · go_wp2_with (first | (refine st_yes (v := .agg (M.cells m)) (by rfl) rfl (run_loadM (x := .tmp 1) rfl rfl HF.out.m) ?_))
    refine (P1.out _ HF.out.i).mono ?_
    rintro r w' ⟨rfl, hb⟩
    have HF := Lib.hid (HF.out.call hb)
    clear hb c24
    have c24 := HF.out.m.cs.c24
    go_wp2_with fail
    refine (P5.out _ HF.out.i).mono ?_
    rintro r w' ⟨rfl, hb⟩
    have HF := Lib.hid (HF.out.call hb)
    clear hb c24
    have c0 := HF.out.m.cs.c0
    have c7 := HF.out.m.cs.c7
    have c12 := HF.out.m.cs.c12
    have c14 := HF.out.m.cs.c14
    have c15 := HF.out.m.cs.c15
    have c16 := HF.out.m.cs.c16
    have c19 := HF.out.m.cs.c19
    have c20 := HF.out.m.cs.c20
    rw [h4] at c0
    go_wp2_with fail
    refine (P2.out _).mono ?_
    rintro r w' ⟨rfl, rfl⟩
    go_wp2_with fail
    refine (P3.out _).mono ?_
    rintro r w' ⟨rfl, rfl⟩
    go_wp2
    go_ret
    exact ⟨bool_eq HY.out.symm, HF.out.bel⟩
  cases x4
  · go_wp2_with (first | (refine st_yes (v := .agg (M.cells m)) (by rfl) rfl (run_loadM (x := .tmp 1) rfl rfl HF.out.m) ?_))
    refine (P1.out _ HF.out.i).mono ?_
    rintro r w' ⟨rfl, hb⟩
    have HF := Lib.hid (HF.out.call hb)
    clear hb c24
    have c24 := HF.out.m.cs.c24
    go_wp2_with fail
    refine (P5.out _ HF.out.i).mono ?_
    rintro r w' ⟨rfl, hb⟩
    have HF := Lib.hid (HF.out.call hb)
    clear hb c24
    have c0 := HF.out.m.cs.c0
    have c7 := HF.out.m.cs.c7
    have c12 := HF.out.m.cs.c12
    have c14 := HF.out.m.cs.c14
    have c15 := HF.out.m.cs.c15
    have c16 := HF.out.m.cs.c16
    have c19 := HF.out.m.cs.c19
    have c20 := HF.out.m.cs.c20
    rw [h4] at c0
    go_wp2_with fail
    refine (P2.out _).mono ?_
    rintro r w' ⟨rfl, rfl⟩
    go_wp2_with fail
    refine (P3.out _).mono ?_
    rintro r w' ⟨rfl, rfl⟩
    go_wp2_with fail
    refine (P4.out _).mono ?_
    rintro r w' ⟨rfl, rfl⟩
    go_wp2
    go_ret
    exact ⟨bool_eq HY.out.symm, HF.out.bel⟩
  by_cases q1 : m.addr.size = 4
  rotate_left
  · rw [decide_eq_false q1] at HY
    go_wp2_with (first | (refine st_yes (v := .agg (M.cells m)) (by rfl) rfl (run_loadM (x := .tmp 1) rfl rfl HF.out.m) ?_))
    refine (P1.out _ HF.out.i).mono ?_
    rintro r w' ⟨rfl, hb⟩
    have HF := Lib.hid (HF.out.call hb)
    clear hb c24
    have c24 := HF.out.m.cs.c24
    go_wp2_with fail
    refine (P5.out _ HF.out.i).mono ?_
    rintro r w' ⟨rfl, hb⟩
    have HF := Lib.hid (HF.out.call hb)
    clear hb c24
    have c0 := HF.out.m.cs.c0
    have c7 := HF.out.m.cs.c7
    have c12 := HF.out.m.cs.c12
    have c14 := HF.out.m.cs.c14
    have c15 := HF.out.m.cs.c15
    have c16 := HF.out.m.cs.c16
    have c19 := HF.out.m.cs.c19
    have c20 := HF.out.m.cs.c20
    rw [h4] at c0
    go_wp2_with fail
    refine (P2.out _).mono ?_
    rintro r w' ⟨rfl, rfl⟩
    go_wp2_with fail
    refine (P3.out _).mono ?_
    rintro r w' ⟨rfl, rfl⟩
    go_wp2_with fail
    refine (P4.out _).mono ?_
    rintro r w' ⟨rfl, rfl⟩
    go_wp2
    go_ret
    exact ⟨bool_eq HY.out.symm, HF.out.bel⟩
  by_cases q2 : m.orig.size = 4
  rotate_left
  · rw [decide_eq_true q1, decide_eq_false q2] at HY
    have q3 : ((m.orig.size : Int) == 4) = false := by rw [beq_eq_false_iff_ne]; omega
    go_wp2_with (first | (refine st_yes (v := .agg (M.cells m)) (by rfl) rfl (run_loadM (x := .tmp 1) rfl rfl HF.out.m) ?_))
    refine (P1.out _ HF.out.i).mono ?_
    rintro r w' ⟨rfl, hb⟩
    have HF := Lib.hid (HF.out.call hb)
    clear hb c24
    have c24 := HF.out.m.cs.c24
    go_wp2_with fail
    refine (P5.out _ HF.out.i).mono ?_
    rintro r w' ⟨rfl, hb⟩
    have HF := Lib.hid (HF.out.call hb)
    clear hb c24
    have c0 := HF.out.m.cs.c0
    have c7 := HF.out.m.cs.c7
    have c12 := HF.out.m.cs.c12
    have c14 := HF.out.m.cs.c14
    have c15 := HF.out.m.cs.c15
    have c16 := HF.out.m.cs.c16
    have c19 := HF.out.m.cs.c19
    have c20 := HF.out.m.cs.c20
    rw [h4] at c0
    go_wp2_with fail
    refine (P2.out _).mono ?_
    rintro r w' ⟨rfl, rfl⟩
    go_wp2_with fail
    refine (P3.out _).mono ?_
    rintro r w' ⟨rfl, rfl⟩
    go_wp2_with fail
    refine (P4.out _).mono ?_
    rintro r w' ⟨rfl, rfl⟩
    go_wp2
    go_ret
    exact ⟨bool_eq HY.out.symm, HF.out.bel⟩
  rw [decide_eq_true q1, decide_eq_true q2] at HY
  go_wp2_with (first | (refine st_yes (v := .agg (M.cells m)) (by rfl) rfl (run_loadM (x := .tmp 1) rfl rfl HF.out.m) ?_))
  refine (P1.out _ HF.out.i).mono ?_
  rintro r w' ⟨rfl, hb⟩
  have HF := Lib.hid (HF.out.call hb)
  clear hb c24
  have c24 := HF.out.m.cs.c24
  go_wp2_with fail
  refine (P5.out _ HF.out.i).mono ?_
  rintro r w' ⟨rfl, hb⟩
  have HF := Lib.hid (HF.out.call hb)
  clear hb c24
  have c0 := HF.out.m.cs.c0
  have c7 := HF.out.m.cs.c7
  have c12 := HF.out.m.cs.c12
  have c14 := HF.out.m.cs.c14
  have c15 := HF.out.m.cs.c15
  have c16 := HF.out.m.cs.c16
  have c19 := HF.out.m.cs.c19
  have c20 := HF.out.m.cs.c20
  rw [h4] at c0
  go_wp2_with fail
  refine (P2.out _).mono ?_
  rintro r w' ⟨rfl, rfl⟩
  go_wp2_with fail
  refine (P3.out _).mono ?_
  rintro r w' ⟨rfl, rfl⟩
  go_wp2_with fail
  refine (P4.out _).mono ?_
  rintro r w' ⟨rfl, rfl⟩
  go_wp2
  go_ret
  exact ⟨bool_eq HY.out.symm, HF.out.bel⟩
end Go.Proofs.Ytlelfapmleopaaa.Z2
