/-
  Whether a request may be: the program's answer and the document's. Condition: the message's lists stand in the world, and aren't long.
-/
import Derived.Test.YtlelfapmleopaaaQ1
import Derived.Test.YtlelfapmleopaaaBare3
import Derived.Test.YtlelfapmleopaaaXp
import Derived.Test.YtlelfapmleopaaaAm
namespace Go.Proofs.Ytlelfapmleopaaa.Q2
open Go.ChangeShapes Go.WideShapes Go.ChangeAt Go.RowKit
open Go.Proofs.Ytlelfapmleopaaa.Ms
open Go.Proofs.Ytlelfapmleopaaa.Box
open Go.Proofs.Ytlelfapmleopaaa.Xv
open Go.Proofs.Ytlelfapmleopaaa.Q1
open Go.Proofs.Ytlelfapmleopaaa.Am
open Go.Proofs.Ytlelfapmleopaaa.Oct (fitsB)
open Go.Proofs.Ytlelfapmleopaaa.Hs (run_loadM)
open Go.Proofs.Ytlelfapmleopaaa.Or (st_yes)
set_option linter.unusedVariables false
set_option maxRecDepth 100000
set_option maxRecDepth 100000
theorem flags_any (n : Int) (w : World) : Calls Try.prog 65 #[.int .i64 n] w fun e w' => e = .returned (.bool (decide (0 ≤ n ∧ n ≤ 31))) ∧ w = w' := by
  go_enter Try.func65, Try.ntmps65
  go_wp2
  go_ret
  exact ⟨bool_eq (by rw [Bool.eq_iff_iff]; simp; omega), rfl⟩
set_option maxHeartbeats 3200000 in
theorem nums_any (m : M) (w : World) : Calls Try.prog 42 #[.agg m.cells] w fun e w' => e = .returned (.bool (nums m)) ∧ Below w.heap.size w w' := by
  have bel := balloc (Below.refl _ w) (.cells m.cells 34)
  have b0 := Bx.new w m
  have HK := Lib.hid (show nums m = (decide (0 ≤ m.flags ∧ m.flags ≤ 31) && (fitsB m.hops 1 && (fitsB m.nonce 4 && (fitsB m.seq 4 && fitsB m.seq2 4)))) from rfl)
  have P1 := Lib.hid (fun V => flags_any m.flags V)
  have P2 := Lib.hid (fun V => Oct.fits_any m.hops 1 V)
  have P3 := Lib.hid (fun V => Oct.fits_any m.nonce 4 V)
  have P4 := Lib.hid (fun V => Oct.fits_any m.seq 4 V)
  have P5 := Lib.hid (fun V => Oct.fits_any m.seq2 4 V)
  generalize nums m = y at *
  generalize decide (0 ≤ m.flags ∧ m.flags ≤ 31) = x1 at *
  generalize fitsB m.hops 1 = x2 at *
  generalize fitsB m.nonce 4 = x3 at *
  generalize fitsB m.seq 4 = x4 at *
  generalize fitsB m.seq2 4 = x5 at *
  go_enter Try.func42, Try.ntmps42
  go_upto_region 1 with fail
  generalize w.alloc (.cells m.cells 34) = V at *
  have c12 := b0.cs.c12
  have c13 := b0.cs.c13
  have c15 := b0.cs.c15
  have c16 := b0.cs.c16
  have c17 := b0.cs.c17
  clear b0
  cases x1
  · go_wp2_with fail
    refine (P1.out _).mono ?_
    rintro r w' ⟨rfl, rfl⟩
    go_wp2
    go_ret
    exact ⟨bool_eq HK.out.symm, bel⟩
  cases x2
  · go_wp2_with fail
    refine (P1.out _).mono ?_
    rintro r w' ⟨rfl, rfl⟩
    go_wp2_with fail
    refine (P2.out _).mono ?_
    rintro r w' ⟨rfl, rfl⟩
    go_wp2
    go_ret
    exact ⟨bool_eq HK.out.symm, bel⟩
  cases x3
  · go_wp2_with fail
    refine (P1.out _).mono ?_
    rintro r w' ⟨rfl, rfl⟩
    go_wp2_with fail
    refine (P2.out _).mono ?_
    rintro r w' ⟨rfl, rfl⟩
    go_wp2_with fail
    refine (P3.out _).mono ?_
    rintro r w' ⟨rfl, rfl⟩
    go_wp2
    go_ret
    exact ⟨bool_eq HK.out.symm, bel⟩
  cases x4
  · go_wp2_with fail
    refine (P1.out _).mono ?_
    rintro r w' ⟨rfl, rfl⟩
    go_wp2_with fail
    refine (P2.out _).mono ?_
    rintro r w' ⟨rfl, rfl⟩
    go_wp2_with fail
    refine (P3.out _).mono ?_
    rintro r w' ⟨rfl, rfl⟩
    go_wp2_with fail
    refine (P4.out _).mono ?_
    rintro r w' ⟨rfl, rfl⟩
    go_wp2
    go_ret
    exact ⟨bool_eq HK.out.symm, bel⟩
  go_wp2_with fail
  refine (P1.out _).mono ?_
  rintro r w' ⟨rfl, rfl⟩
  go_wp2_with fail
  refine (P2.out _).mono ?_
  rintro r w' ⟨rfl, rfl⟩
  go_wp2_with fail
  refine (P3.out _).mono ?_
  rintro r w' ⟨rfl, rfl⟩
  go_wp2_with fail
  refine (P4.out _).mono ?_
  rintro r w' ⟨rfl, rfl⟩
  go_wp2_with fail
  refine (P5.out _).mono ?_
  rintro r w' ⟨rfl, rfl⟩
  go_wp2
  go_ret
  exact ⟨bool_eq HK.out.symm, bel⟩
set_option maxHeartbeats 6400000 in
theorem right_any (m : M) (w : World) (hm : m.In w) (lb : ∀ x ∈ m.sl, x.1.size ≤ 1099511627776) : Calls Try.prog 20 #[.agg m.cells] w fun e w' => e = .returned (.bool (okQ m)) ∧ Below w.heap.size w w' := by
  have HF := Lib.hid (Fs.new w m hm)
  have HY := Lib.hid (show okQ m = (decide (m.kind = 3) && (bare m && (nums m && (decide (m.addr.size = 4) && (decide (m.orig.size = 4) && okX m.sl))))) from rfl)
  have P1 := Lib.hid (fun hk V (h : m.In V) => B3.bare_any m V hk h)
  have P2 := Lib.hid (fun V => nums_any m V)
  have P3 := Lib.hid (fun V (h : m.In V) => Xp.right_any m.sa m.sc m.sl V h.s h.sl lb)
  clear lb hm
  generalize okQ m = y at *
  generalize bare m = x1 at *
  generalize nums m = x2 at *
  generalize okX m.sl = x3 at *
  go_enter Try.func20, Try.ntmps20
  go_upto_region 1 with fail
  generalize w.alloc (.cells m.cells 34) = V at *
  have c0 := HF.out.m.cs.c0
  have c19 := HF.out.m.cs.c19
  have c20 := HF.out.m.cs.c20
  have c24 := HF.out.m.cs.c24
  by_cases hk : m.kind = 3
  rotate_left
  · rw [decide_eq_false hk] at HY
    go_wp2
    go_ret
    exact ⟨bool_eq HY.out.symm, HF.out.bel⟩
  have P1 := Lib.hid (P1.out hk)
  rw [decide_eq_true hk] at HY
  cases x1
  · go_wp2_with (first | (refine st_yes (v := .agg (M.cells m)) (by rfl) rfl (run_loadM (x := .tmp 1) rfl rfl HF.out.m) ?_))
    refine (P1.out _ HF.out.i).mono ?_
    rintro r w' ⟨rfl, hb⟩
    have HF := Lib.hid (HF.out.call hb)
    clear hb c19 c20 c24
    have c19 := HF.out.m.cs.c19
    have c20 := HF.out.m.cs.c20
    have c24 := HF.out.m.cs.c24
    go_wp2_with (first | (refine st_yes (v := .agg (M.cells m)) (by rfl) rfl (run_loadM (x := .tmp 1) rfl rfl HF.out.m) ?_))
    go_ret
    exact ⟨bool_eq HY.out.symm, HF.out.bel⟩
  cases x2
  · go_wp2_with (first | (refine st_yes (v := .agg (M.cells m)) (by rfl) rfl (run_loadM (x := .tmp 1) rfl rfl HF.out.m) ?_))
    refine (P1.out _ HF.out.i).mono ?_
    rintro r w' ⟨rfl, hb⟩
    have HF := Lib.hid (HF.out.call hb)
    clear hb c19 c20 c24
    have c19 := HF.out.m.cs.c19
    have c20 := HF.out.m.cs.c20
    have c24 := HF.out.m.cs.c24
    go_wp2_with (first | (refine st_yes (v := .agg (M.cells m)) (by rfl) rfl (run_loadM (x := .tmp 1) rfl rfl HF.out.m) ?_))
    refine (P2.out _).mono ?_
    rintro r w' ⟨rfl, hb⟩
    have HF := Lib.hid (HF.out.call hb)
    clear hb c19 c20 c24
    have c19 := HF.out.m.cs.c19
    have c20 := HF.out.m.cs.c20
    have c24 := HF.out.m.cs.c24
    go_wp2_with (first | (refine st_yes (v := .agg (M.cells m)) (by rfl) rfl (run_loadM (x := .tmp 1) rfl rfl HF.out.m) ?_))
    go_ret
    exact ⟨bool_eq HY.out.symm, HF.out.bel⟩
  by_cases q1 : m.addr.size = 4
  rotate_left
  · rw [decide_eq_false q1] at HY
    go_wp2_with (first | (refine st_yes (v := .agg (M.cells m)) (by rfl) rfl (run_loadM (x := .tmp 1) rfl rfl HF.out.m) ?_))
    refine (P1.out _ HF.out.i).mono ?_
    rintro r w' ⟨rfl, hb⟩
    have HF := Lib.hid (HF.out.call hb)
    clear hb c19 c20 c24
    have c19 := HF.out.m.cs.c19
    have c20 := HF.out.m.cs.c20
    have c24 := HF.out.m.cs.c24
    go_wp2_with (first | (refine st_yes (v := .agg (M.cells m)) (by rfl) rfl (run_loadM (x := .tmp 1) rfl rfl HF.out.m) ?_))
    refine (P2.out _).mono ?_
    rintro r w' ⟨rfl, hb⟩
    have HF := Lib.hid (HF.out.call hb)
    clear hb c19 c20 c24
    have c19 := HF.out.m.cs.c19
    have c20 := HF.out.m.cs.c20
    have c24 := HF.out.m.cs.c24
    go_wp2_with (first | (refine st_yes (v := .agg (M.cells m)) (by rfl) rfl (run_loadM (x := .tmp 1) rfl rfl HF.out.m) ?_))
    go_ret
    exact ⟨bool_eq HY.out.symm, HF.out.bel⟩
  by_cases q2 : m.orig.size = 4
  rotate_left
  · rw [decide_eq_true q1, decide_eq_false q2] at HY
    go_wp2_with (first | (refine st_yes (v := .agg (M.cells m)) (by rfl) rfl (run_loadM (x := .tmp 1) rfl rfl HF.out.m) ?_))
    refine (P1.out _ HF.out.i).mono ?_
    rintro r w' ⟨rfl, hb⟩
    have HF := Lib.hid (HF.out.call hb)
    clear hb c19 c20 c24
    have c19 := HF.out.m.cs.c19
    have c20 := HF.out.m.cs.c20
    have c24 := HF.out.m.cs.c24
    go_wp2_with (first | (refine st_yes (v := .agg (M.cells m)) (by rfl) rfl (run_loadM (x := .tmp 1) rfl rfl HF.out.m) ?_))
    refine (P2.out _).mono ?_
    rintro r w' ⟨rfl, hb⟩
    have HF := Lib.hid (HF.out.call hb)
    clear hb c19 c20 c24
    have c19 := HF.out.m.cs.c19
    have c20 := HF.out.m.cs.c20
    have c24 := HF.out.m.cs.c24
    go_wp2_with (first | (refine st_yes (v := .agg (M.cells m)) (by rfl) rfl (run_loadM (x := .tmp 1) rfl rfl HF.out.m) ?_))
    go_ret
    exact ⟨bool_eq HY.out.symm, HF.out.bel⟩
  rw [decide_eq_true q1, decide_eq_true q2] at HY
  go_wp2_with (first | (refine st_yes (v := .agg (M.cells m)) (by rfl) rfl (run_loadM (x := .tmp 1) rfl rfl HF.out.m) ?_))
  refine (P1.out _ HF.out.i).mono ?_
  rintro r w' ⟨rfl, hb⟩
  have HF := Lib.hid (HF.out.call hb)
  clear hb c19 c20 c24
  have c19 := HF.out.m.cs.c19
  have c20 := HF.out.m.cs.c20
  have c24 := HF.out.m.cs.c24
  go_wp2_with (first | (refine st_yes (v := .agg (M.cells m)) (by rfl) rfl (run_loadM (x := .tmp 1) rfl rfl HF.out.m) ?_))
  refine (P2.out _).mono ?_
  rintro r w' ⟨rfl, hb⟩
  have HF := Lib.hid (HF.out.call hb)
  clear hb c19 c20 c24
  have c19 := HF.out.m.cs.c19
  have c20 := HF.out.m.cs.c20
  have c24 := HF.out.m.cs.c24
  go_wp2_with (first | (refine st_yes (v := .agg (M.cells m)) (by rfl) rfl (run_loadM (x := .tmp 1) rfl rfl HF.out.m) ?_))
  refine (P3.out _ HF.out.i).mono ?_
  rintro r w' ⟨rfl, hb⟩
  have HF := Lib.hid (HF.out.call hb)
  clear hb c19 c20 c24
  have c19 := HF.out.m.cs.c19
  have c20 := HF.out.m.cs.c20
  have c24 := HF.out.m.cs.c24
  go_wp2_with (first | (refine st_yes (v := .agg (M.cells m)) (by rfl) rfl (run_loadM (x := .tmp 1) rfl rfl HF.out.m) ?_))
  go_ret
  exact ⟨bool_eq HY.out.symm, HF.out.bel⟩
set_option maxHeartbeats 6400000 in
theorem rright_any (m : M) (w : World) (hm : m.In w) (lb : ∀ x ∈ m.sl, x.1.size ≤ 1099511627776) : Calls Try.prog 23 #[.agg m.cells] w fun e w' => e = .returned (.bool (okQ m)) ∧ Below w.heap.size w w' := by
  have HF := Lib.hid (Fs.new w m hm)
  have HY := Lib.hid (show okQ m = (decide (m.kind = 3) && (bare m && ((decide (0 ≤ m.flags ∧ m.flags ≤ 31) && (fitsB m.hops 1 && (fitsB m.nonce 4 && (fitsB m.seq 4 && fitsB m.seq2 4)))) && (decide (m.addr.size = 4) && (decide (m.orig.size = 4) && okX m.sl))))) from rfl)
  have P1 := Lib.hid (fun hk V (h : m.In V) => B3.rbare_any m V hk h)
  have P2 := Lib.hid (fun V => Oct.rfits_any m.hops 1 V)
  have P3 := Lib.hid (fun V => Oct.rfits_any m.nonce 4 V)
  have P4 := Lib.hid (fun V => Oct.rfits_any m.seq 4 V)
  have P5 := Lib.hid (fun V => Oct.rfits_any m.seq2 4 V)
  have P6 := Lib.hid (fun V (h : m.In V) => Xp.rright_any m.sa m.sc m.sl V h.s h.sl lb)
  clear lb hm
  generalize okQ m = y at *
  generalize bare m = x1 at *
  generalize fitsB m.hops 1 = x2 at *
  generalize fitsB m.nonce 4 = x3 at *
  generalize fitsB m.seq 4 = x4 at *
  generalize fitsB m.seq2 4 = x5 at *
  generalize okX m.sl = x6 at *
  go_enter Try.func23, Try.ntmps23
  go_upto_region 1 with fail
  generalize w.alloc (.cells m.cells 34) = V at *
  have c0 := HF.out.m.cs.c0
  have c12 := HF.out.m.cs.c12
  have c13 := HF.out.m.cs.c13
  have c15 := HF.out.m.cs.c15
  have c16 := HF.out.m.cs.c16
  have c17 := HF.out.m.cs.c17
  have c19 := HF.out.m.cs.c19
  have c20 := HF.out.m.cs.c20
  have c24 := HF.out.m.cs.c24
  by_cases hk : m.kind = 3
  rotate_left
  · rw [decide_eq_false hk] at HY
    go_wp2
    go_ret
    exact ⟨bool_eq HY.out.symm, HF.out.bel⟩
  have P1 := Lib.hid (P1.out hk)
  rw [decide_eq_true hk] at HY
  cases x1
  · go_wp2_with (first | (refine st_yes (v := .agg (M.cells m)) (by rfl) rfl (run_loadM (x := .tmp 1) rfl rfl HF.out.m) ?_))
    refine (P1.out _ HF.out.i).mono ?_
    rintro r w' ⟨rfl, hb⟩
    have HF := Lib.hid (HF.out.call hb)
    clear hb c12 c13 c15 c16 c17 c19 c20 c24
    have c12 := HF.out.m.cs.c12
    have c13 := HF.out.m.cs.c13
    have c15 := HF.out.m.cs.c15
    have c16 := HF.out.m.cs.c16
    have c17 := HF.out.m.cs.c17
    have c19 := HF.out.m.cs.c19
    have c20 := HF.out.m.cs.c20
    have c24 := HF.out.m.cs.c24
    go_wp2
    go_ret
    exact ⟨bool_eq HY.out.symm, HF.out.bel⟩
  by_cases q0 : 0 ≤ m.flags
  rotate_left
  · rw [decide_eq_false (p := 0 ≤ m.flags ∧ m.flags ≤ 31) (fun h => q0 h.1)] at HY
    go_wp2_with (first | (refine st_yes (v := .agg (M.cells m)) (by rfl) rfl (run_loadM (x := .tmp 1) rfl rfl HF.out.m) ?_))
    refine (P1.out _ HF.out.i).mono ?_
    rintro r w' ⟨rfl, hb⟩
    have HF := Lib.hid (HF.out.call hb)
    clear hb c12 c13 c15 c16 c17 c19 c20 c24
    have c12 := HF.out.m.cs.c12
    have c13 := HF.out.m.cs.c13
    have c15 := HF.out.m.cs.c15
    have c16 := HF.out.m.cs.c16
    have c17 := HF.out.m.cs.c17
    have c19 := HF.out.m.cs.c19
    have c20 := HF.out.m.cs.c20
    have c24 := HF.out.m.cs.c24
    go_wp2
    go_ret
    exact ⟨bool_eq HY.out.symm, HF.out.bel⟩
  by_cases q3 : m.flags ≤ 31
  rotate_left
  · rw [decide_eq_false (p := 0 ≤ m.flags ∧ m.flags ≤ 31) (fun h => q3 h.2)] at HY
    go_wp2_with (first | (refine st_yes (v := .agg (M.cells m)) (by rfl) rfl (run_loadM (x := .tmp 1) rfl rfl HF.out.m) ?_))
    refine (P1.out _ HF.out.i).mono ?_
    rintro r w' ⟨rfl, hb⟩
    have HF := Lib.hid (HF.out.call hb)
    clear hb c12 c13 c15 c16 c17 c19 c20 c24
    have c12 := HF.out.m.cs.c12
    have c13 := HF.out.m.cs.c13
    have c15 := HF.out.m.cs.c15
    have c16 := HF.out.m.cs.c16
    have c17 := HF.out.m.cs.c17
    have c19 := HF.out.m.cs.c19
    have c20 := HF.out.m.cs.c20
    have c24 := HF.out.m.cs.c24
    go_wp2
    go_ret
    exact ⟨bool_eq HY.out.symm, HF.out.bel⟩
  rw [decide_eq_true (p := 0 ≤ m.flags ∧ m.flags ≤ 31) ⟨q0, q3⟩] at HY
  cases x2
  · go_wp2_with (first | (refine st_yes (v := .agg (M.cells m)) (by rfl) rfl (run_loadM (x := .tmp 1) rfl rfl HF.out.m) ?_))
    refine (P1.out _ HF.out.i).mono ?_
    rintro r w' ⟨rfl, hb⟩
    have HF := Lib.hid (HF.out.call hb)
    clear hb c12 c13 c15 c16 c17 c19 c20 c24
    have c12 := HF.out.m.cs.c12
    have c13 := HF.out.m.cs.c13
    have c15 := HF.out.m.cs.c15
    have c16 := HF.out.m.cs.c16
    have c17 := HF.out.m.cs.c17
    have c19 := HF.out.m.cs.c19
    have c20 := HF.out.m.cs.c20
    have c24 := HF.out.m.cs.c24
    go_wp2_with fail
    refine (P2.out _).mono ?_
    rintro r w' ⟨rfl, rfl⟩
    go_wp2
    go_ret
    exact ⟨bool_eq HY.out.symm, HF.out.bel⟩
  cases x3
  · go_wp2_with (first | (refine st_yes (v := .agg (M.cells m)) (by rfl) rfl (run_loadM (x := .tmp 1) rfl rfl HF.out.m) ?_))
    refine (P1.out _ HF.out.i).mono ?_
    rintro r w' ⟨rfl, hb⟩
    have HF := Lib.hid (HF.out.call hb)
    clear hb c12 c13 c15 c16 c17 c19 c20 c24
    have c12 := HF.out.m.cs.c12
    have c13 := HF.out.m.cs.c13
    have c15 := HF.out.m.cs.c15
    have c16 := HF.out.m.cs.c16
    have c17 := HF.out.m.cs.c17
    have c19 := HF.out.m.cs.c19
    have c20 := HF.out.m.cs.c20
    have c24 := HF.out.m.cs.c24
    go_wp2_with fail
    refine (P2.out _).mono ?_
    rintro r w' ⟨rfl, rfl⟩
    go_wp2_with fail
    refine (P3.out _).mono ?_
    rintro r w' ⟨rfl, rfl⟩
    go_wp2
    go_ret
    exact ⟨bool_eq HY.out.symm, HF.out.bel⟩
  cases x4
  · go_wp2_with (first | (refine st_yes (v := .agg (M.cells m)) (by rfl) rfl (run_loadM (x := .tmp 1) rfl rfl HF.out.m) ?_))
    refine (P1.out _ HF.out.i).mono ?_
    rintro r w' ⟨rfl, hb⟩
    have HF := Lib.hid (HF.out.call hb)
    clear hb c12 c13 c15 c16 c17 c19 c20 c24
    have c12 := HF.out.m.cs.c12
    have c13 := HF.out.m.cs.c13
    have c15 := HF.out.m.cs.c15
    have c16 := HF.out.m.cs.c16
    have c17 := HF.out.m.cs.c17
    have c19 := HF.out.m.cs.c19
    have c20 := HF.out.m.cs.c20
    have c24 := HF.out.m.cs.c24
    go_wp2_with fail
    refine (P2.out _).mono ?_
    rintro r w' ⟨rfl, rfl⟩
    go_wp2_with fail
    refine (P3.out _).mono ?_
    rintro r w' ⟨rfl, rfl⟩
    go_wp2_with fail
    refine (P4.out _).mono ?_
    rintro r w' ⟨rfl, rfl⟩
    go_wp2
    go_ret
    exact ⟨bool_eq HY.out.symm, HF.out.bel⟩
  cases x5
  · go_wp2_with (first | (refine st_yes (v := .agg (M.cells m)) (by rfl) rfl (run_loadM (x := .tmp 1) rfl rfl HF.out.m) ?_))
    refine (P1.out _ HF.out.i).mono ?_
    rintro r w' ⟨rfl, hb⟩
    have HF := Lib.hid (HF.out.call hb)
    clear hb c12 c13 c15 c16 c17 c19 c20 c24
    have c12 := HF.out.m.cs.c12
    have c13 := HF.out.m.cs.c13
    have c15 := HF.out.m.cs.c15
    have c16 := HF.out.m.cs.c16
    have c17 := HF.out.m.cs.c17
    have c19 := HF.out.m.cs.c19
    have c20 := HF.out.m.cs.c20
    have c24 := HF.out.m.cs.c24
    go_wp2_with fail
    refine (P2.out _).mono ?_
    rintro r w' ⟨rfl, rfl⟩
    go_wp2_with fail
    refine (P3.out _).mono ?_
    rintro r w' ⟨rfl, rfl⟩
    go_wp2_with fail
    refine (P4.out _).mono ?_
    rintro r w' ⟨rfl, rfl⟩
    go_wp2_with fail
    refine (P5.out _).mono ?_
    rintro r w' ⟨rfl, rfl⟩
    go_wp2
    go_ret
    exact ⟨bool_eq HY.out.symm, HF.out.bel⟩
  by_cases q1 : m.addr.size = 4
  rotate_left
  · rw [decide_eq_false q1] at HY
    go_wp2_with (first | (refine st_yes (v := .agg (M.cells m)) (by rfl) rfl (run_loadM (x := .tmp 1) rfl rfl HF.out.m) ?_))
    refine (P1.out _ HF.out.i).mono ?_
    rintro r w' ⟨rfl, hb⟩
    have HF := Lib.hid (HF.out.call hb)
    clear hb c12 c13 c15 c16 c17 c19 c20 c24
    have c12 := HF.out.m.cs.c12
    have c13 := HF.out.m.cs.c13
    have c15 := HF.out.m.cs.c15
    have c16 := HF.out.m.cs.c16
    have c17 := HF.out.m.cs.c17
    have c19 := HF.out.m.cs.c19
    have c20 := HF.out.m.cs.c20
    have c24 := HF.out.m.cs.c24
    go_wp2_with fail
    refine (P2.out _).mono ?_
    rintro r w' ⟨rfl, rfl⟩
    go_wp2_with fail
    refine (P3.out _).mono ?_
    rintro r w' ⟨rfl, rfl⟩
    go_wp2_with fail
    refine (P4.out _).mono ?_
    rintro r w' ⟨rfl, rfl⟩
    go_wp2_with fail
    refine (P5.out _).mono ?_
    rintro r w' ⟨rfl, rfl⟩
    go_wp2
    go_ret
    exact ⟨bool_eq HY.out.symm, HF.out.bel⟩
  by_cases q2 : m.orig.size = 4
  rotate_left
  · rw [decide_eq_true q1, decide_eq_false q2] at HY
    go_wp2_with (first | (refine st_yes (v := .agg (M.cells m)) (by rfl) rfl (run_loadM (x := .tmp 1) rfl rfl HF.out.m) ?_))
    refine (P1.out _ HF.out.i).mono ?_
    rintro r w' ⟨rfl, hb⟩
    have HF := Lib.hid (HF.out.call hb)
    clear hb c12 c13 c15 c16 c17 c19 c20 c24
    have c12 := HF.out.m.cs.c12
    have c13 := HF.out.m.cs.c13
    have c15 := HF.out.m.cs.c15
    have c16 := HF.out.m.cs.c16
    have c17 := HF.out.m.cs.c17
    have c19 := HF.out.m.cs.c19
    have c20 := HF.out.m.cs.c20
    have c24 := HF.out.m.cs.c24
    go_wp2_with fail
    refine (P2.out _).mono ?_
    rintro r w' ⟨rfl, rfl⟩
    go_wp2_with fail
    refine (P3.out _).mono ?_
    rintro r w' ⟨rfl, rfl⟩
    go_wp2_with fail
    refine (P4.out _).mono ?_
    rintro r w' ⟨rfl, rfl⟩
    go_wp2_with fail
    refine (P5.out _).mono ?_
    rintro r w' ⟨rfl, rfl⟩
    go_wp2
    go_ret
    exact ⟨bool_eq HY.out.symm, HF.out.bel⟩
  rw [decide_eq_true q1, decide_eq_true q2] at HY
  go_wp2_with (first | (refine st_yes (v := .agg (M.cells m)) (by rfl) rfl (run_loadM (x := .tmp 1) rfl rfl HF.out.m) ?_))
  refine (P1.out _ HF.out.i).mono ?_
  rintro r w' ⟨rfl, hb⟩
  have HF := Lib.hid (HF.out.call hb)
  clear hb c12 c13 c15 c16 c17 c19 c20 c24
  have c12 := HF.out.m.cs.c12
  have c13 := HF.out.m.cs.c13
  have c15 := HF.out.m.cs.c15
  have c16 := HF.out.m.cs.c16
  have c17 := HF.out.m.cs.c17
  have c19 := HF.out.m.cs.c19
  have c20 := HF.out.m.cs.c20
  have c24 := HF.out.m.cs.c24
  go_wp2_with fail
  refine (P2.out _).mono ?_
  rintro r w' ⟨rfl, rfl⟩
  go_wp2_with fail
  refine (P3.out _).mono ?_
  rintro r w' ⟨rfl, rfl⟩
  go_wp2_with fail
  refine (P4.out _).mono ?_
  rintro r w' ⟨rfl, rfl⟩
  go_wp2_with fail
  refine (P5.out _).mono ?_
  rintro r w' ⟨rfl, rfl⟩
  go_wp2_with fail
  refine (P6.out _ HF.out.i).mono ?_
  rintro r w' ⟨rfl, hb⟩
  have HF := Lib.hid (HF.out.call hb)
  clear hb
  go_wp2
  go_ret
  exact ⟨bool_eq HY.out.symm, HF.out.bel⟩
end Go.Proofs.Ytlelfapmleopaaa.Q2
