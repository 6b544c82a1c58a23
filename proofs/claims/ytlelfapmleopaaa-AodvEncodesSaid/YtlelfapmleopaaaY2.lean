/-
  Whether a route error may be: the program's answer and the document's. Condition: the message's lists stand in the world, and aren't long.
-/
import Derived.Test.YtlelfapmleopaaaY1
import Derived.Test.YtlelfapmleopaaaBare
import Derived.Test.YtlelfapmleopaaaXp
import Derived.Test.YtlelfapmleopaaaAm
import Derived.Test.YtlelfapmleopaaaDs
namespace Go.Proofs.Ytlelfapmleopaaa.Y2
open Go.ChangeShapes Go.WideShapes Go.ChangeAt Go.RowKit
open Go.Proofs.Ytlelfapmleopaaa.Ms
open Go.Proofs.Ytlelfapmleopaaa.Box
open Go.Proofs.Ytlelfapmleopaaa.Xv
open Go.Proofs.Ytlelfapmleopaaa.Y1
open Go.Proofs.Ytlelfapmleopaaa.Am
open Go.Proofs.Ytlelfapmleopaaa.Ds (cellsD)
open Go.Proofs.Ytlelfapmleopaaa.Oct (fitsB)
open Go.Proofs.Ytlelfapmleopaaa.Hs (run_loadM)
open Go.Proofs.Ytlelfapmleopaaa.Or (st_yes)
set_option linter.unusedVariables false
set_option maxRecDepth 100000
set_option maxRecDepth 100000
theorem bare_eq (m : M) : Bare.bareN m = bare m := rfl
/-- How many there are, and whether each may be. -/
def rightD (l : List El) : Bool := decide (1 ≤ l.length ∧ l.length ≤ 255) && okD l
theorem right_few {l : List El} (h : ¬ (1 ≤ l.length ∧ l.length ≤ 255)) : rightD l = false := by unfold rightD; rw [decide_eq_false h]; rfl
theorem right_in {l : List El} (h : 1 ≤ l.length ∧ l.length ≤ 255) : rightD l = okD l := by unfold rightD; rw [decide_eq_true h]; rfl
theorem ok_eq (m : M) : okE m = (decide (m.kind = 5) && (bare m && (decide (0 ≤ m.flags ∧ m.flags ≤ 1) && (rightD m.ll && okX m.sl)))) := by
  unfold okE nums rightD
  simp only [Bool.and_assoc]
theorem one_fits (d : ByteArray) (n : Int) (h : d.size = 4) (hf : fitsB n 4 = true) : ok1D (d, n) = true := by unfold ok1D; rw [decide_eq_true h, hf]; rfl
theorem one_wide (d : ByteArray) (n : Int) (h : ¬ d.size = 4) : ok1D (d, n) = false := by unfold ok1D; rw [decide_eq_false h]; rfl
theorem one_far (d : ByteArray) (n : Int) (hf : fitsB n 4 = false) : ok1D (d, n) = false := by unfold ok1D; rw [hf, Bool.and_false]
set_option maxHeartbeats 3200000 in
theorem list_any (a : Option Addr) (c : Nat) (l : List El) (w : World) (hl : DRow w a l) (ln : l.length ≤ 1048576) :
    Calls Try.prog 45 #[.slice a l.length c] w fun e w' => e = .returned (.bool (rightD l)) ∧ Below w.heap.size w w' := by
  have HL := Lib.hid hl
  clear hl
  by_cases h0 : l.length < 1
  · have HY := Lib.hid (right_few (l := l) (by omega))
    go_enter Try.func45, Try.ntmps45
    go_wp2
    go_ret
    exact ⟨bool_eq HY.out.symm, Below.refl _ _⟩
  by_cases h1 : 255 < l.length
  · have HY := Lib.hid (right_few (l := l) (by omega))
    go_enter Try.func45, Try.ntmps45
    go_wp2
    go_ret
    exact ⟨bool_eq HY.out.symm, Below.refl _ _⟩
  have HY := Lib.hid (right_in (l := l) (by omega))
  go_enter Try.func45, Try.ntmps45
  go_wp2
  clear h0 h1
  go_loopw [15] (fun i wr => ∃ k : Nat, k ≤ l.length ∧ i = .int .i64 k ∧ Hid (okD (l.take k) = true) ∧ Hid (Below w.heap.size w wr)) (fun i _ => l.length - (intOf i).toNat)
  case atStart => exact ⟨0, Nat.zero_le _, rfl, Lib.hid rfl, Lib.hid (Below.refl _ _)⟩
  case round =>
    obtain ⟨k, hk, rfl, HN, HR⟩ := hrel
    by_cases hlt : k < l.length
    · obtain ⟨p, rfl, hp, c0, c1⟩ := (HL.out.below HR.out) k hlt
      have HT := Lib.hid (okD_take l k hlt)
      have HF := Lib.hid (okD_not l k hlt)
      rw [add_one] at c1
      generalize l[k] = u at *
      obtain ⟨d, n⟩ := u
      have HX := Lib.hid (Bk.Bk.new 50 wr (cellsD (d, n)))
      have HR := Lib.hid (HR.out.alloc HR.out.size (.cells (cellsD (d, n)) 50))
      simp only [] at c0 c1
      go_upto_region 6 with fail
      change Code.wp _ _ _ _ (wr.alloc (.cells (cellsD (d, n)) 50))
      generalize wr.alloc (.cells (cellsD (d, n)) 50) = W at *
      generalize wr.heap.size = q at *
      clear c0 c1 hp
      have c0 := HX.out.cell 0 (.string d) rfl
      have c1 := HX.out.cell 1 (.int .i64 n) rfl
      have PF := Lib.hid (Oct.fits_any n 4 W)
      by_cases h4 : d.size = 4
      rotate_left
      · have h4' : ((d.size : Int) == 4) = false := by rw [beq_eq_false_iff_ne]; omega
        go_wp2
        go_ret
        exact ⟨bool_eq (by rw [HY.out, HF.out (one_wide d n h4)]), HR.out⟩
      have h4' : (d.size : Int) = 4 := by omega
      cases hf : fitsB n 4
      · rw [hf] at PF
        go_wp2_with fail
        refine (PF.out).mono ?_
        rintro r w' ⟨rfl, rfl⟩
        go_wp2
        go_ret
        exact ⟨bool_eq (by rw [HY.out, HF.out (one_far d n hf)]), HR.out⟩
      rw [hf] at PF
      go_wp2_with fail
      refine (PF.out).mono ?_
      rintro r w' ⟨rfl, rfl⟩
      go_wp2
      go_roundw
      case rel => exact ⟨k + 1, hlt, by go_num, Lib.hid (by rw [HT.out, HN.out, one_fits d n h4 hf]; rfl), HR⟩
      case measure => simp [intOf]; omega
    · obtain rfl : k = l.length := by omega
      rw [List.take_length] at HN
      go_wp2
      go_ret
      exact ⟨bool_eq (by rw [HY.out, HN.out]), HR.out⟩
set_option maxHeartbeats 6400000 in
theorem right_any (m : M) (w : World) (hm : m.In w) (lb : ∀ x ∈ m.sl, x.1.size ≤ 1099511627776) : Calls Try.prog 22 #[.agg m.cells] w fun e w' => e = .returned (.bool (okE m)) ∧ Below w.heap.size w w' := by
  have HF := Lib.hid (Fs.new w m hm)
  have HY := Lib.hid (ok_eq m)
  have P1 := Lib.hid (fun V (h : m.In V) => Bare.bare_any m V h)
  rw [bare_eq] at P1
  have P2 := Lib.hid (fun V (h : m.In V) => list_any m.la m.lc m.ll V h.d h.dl)
  have P3 := Lib.hid (fun V (h : m.In V) => Xp.right_any m.sa m.sc m.sl V h.s h.sl lb)
  clear lb hm
  generalize okE m = y at *
  generalize bare m = x1 at *
  generalize rightD m.ll = x2 at *
  generalize okX m.sl = x3 at *
  go_enter Try.func22, Try.ntmps22
  go_upto_region 1 with fail
  generalize w.alloc (.cells m.cells 34) = V at *
  have c0 := HF.out.m.cs.c0
  have c15 := HF.out.m.cs.c15
  have c21 := HF.out.m.cs.c21
  have c24 := HF.out.m.cs.c24
  by_cases hk : m.kind = 5
  rotate_left
  · rw [decide_eq_false hk] at HY
    go_wp2
    go_ret
    exact ⟨bool_eq HY.out.symm, HF.out.bel⟩
  rw [decide_eq_true hk] at HY
  cases x1
  · go_wp2_with (first | (refine st_yes (v := .agg (M.cells m)) (by rfl) rfl (run_loadM (x := .tmp 1) rfl rfl HF.out.m) ?_))
    refine (P1.out _ HF.out.i).mono ?_
    rintro r w' ⟨rfl, hb⟩
    have HF := Lib.hid (HF.out.call hb)
    clear hb c15 c21 c24
    have c15 := HF.out.m.cs.c15
    have c21 := HF.out.m.cs.c21
    have c24 := HF.out.m.cs.c24
    go_wp2_with (first | (refine st_yes (v := .agg (M.cells m)) (by rfl) rfl (run_loadM (x := .tmp 1) rfl rfl HF.out.m) ?_))
    go_ret
    exact ⟨bool_eq HY.out.symm, HF.out.bel⟩
  by_cases f0 : 0 ≤ m.flags
  rotate_left
  · rw [decide_eq_false (p := 0 ≤ m.flags ∧ m.flags ≤ 1) (fun h => f0 h.1)] at HY
    go_wp2_with (first | (refine st_yes (v := .agg (M.cells m)) (by rfl) rfl (run_loadM (x := .tmp 1) rfl rfl HF.out.m) ?_))
    refine (P1.out _ HF.out.i).mono ?_
    rintro r w' ⟨rfl, hb⟩
    have HF := Lib.hid (HF.out.call hb)
    clear hb c15 c21 c24
    have c15 := HF.out.m.cs.c15
    have c21 := HF.out.m.cs.c21
    have c24 := HF.out.m.cs.c24
    go_wp2_with (first | (refine st_yes (v := .agg (M.cells m)) (by rfl) rfl (run_loadM (x := .tmp 1) rfl rfl HF.out.m) ?_))
    go_ret
    exact ⟨bool_eq HY.out.symm, HF.out.bel⟩
  by_cases f1 : m.flags ≤ 1
  rotate_left
  · rw [decide_eq_false (p := 0 ≤ m.flags ∧ m.flags ≤ 1) (fun h => f1 h.2)] at HY
    go_wp2_with (first | (refine st_yes (v := .agg (M.cells m)) (by rfl) rfl (run_loadM (x := .tmp 1) rfl rfl HF.out.m) ?_))
    refine (P1.out _ HF.out.i).mono ?_
    rintro r w' ⟨rfl, hb⟩
    have HF := Lib.hid (HF.out.call hb)
    clear hb c15 c21 c24
    have c15 := HF.out.m.cs.c15
    have c21 := HF.out.m.cs.c21
    have c24 := HF.out.m.cs.c24
    go_wp2_with (first | (refine st_yes (v := .agg (M.cells m)) (by rfl) rfl (run_loadM (x := .tmp 1) rfl rfl HF.out.m) ?_))
    go_ret
    exact ⟨bool_eq HY.out.symm, HF.out.bel⟩
  rw [decide_eq_true (p := 0 ≤ m.flags ∧ m.flags ≤ 1) ⟨f0, f1⟩] at HY
  cases x2
  · go_wp2_with (first | (refine st_yes (v := .agg (M.cells m)) (by rfl) rfl (run_loadM (x := .tmp 1) rfl rfl HF.out.m) ?_))
    refine (P1.out _ HF.out.i).mono ?_
    rintro r w' ⟨rfl, hb⟩
    have HF := Lib.hid (HF.out.call hb)
    clear hb c15 c21 c24
    have c15 := HF.out.m.cs.c15
    have c21 := HF.out.m.cs.c21
    have c24 := HF.out.m.cs.c24
    go_wp2_with (first | (refine st_yes (v := .agg (M.cells m)) (by rfl) rfl (run_loadM (x := .tmp 1) rfl rfl HF.out.m) ?_))
    refine (P2.out _ HF.out.i).mono ?_
    rintro r w' ⟨rfl, hb⟩
    have HF := Lib.hid (HF.out.call hb)
    clear hb c15 c21 c24
    have c15 := HF.out.m.cs.c15
    have c21 := HF.out.m.cs.c21
    have c24 := HF.out.m.cs.c24
    go_wp2_with (first | (refine st_yes (v := .agg (M.cells m)) (by rfl) rfl (run_loadM (x := .tmp 1) rfl rfl HF.out.m) ?_))
    go_ret
    exact ⟨bool_eq HY.out.symm, HF.out.bel⟩
  go_wp2_with (first | (refine st_yes (v := .agg (M.cells m)) (by rfl) rfl (run_loadM (x := .tmp 1) rfl rfl HF.out.m) ?_))
  refine (P1.out _ HF.out.i).mono ?_
  rintro r w' ⟨rfl, hb⟩
  have HF := Lib.hid (HF.out.call hb)
  clear hb c15 c21 c24
  have c15 := HF.out.m.cs.c15
  have c21 := HF.out.m.cs.c21
  have c24 := HF.out.m.cs.c24
  go_wp2_with (first | (refine st_yes (v := .agg (M.cells m)) (by rfl) rfl (run_loadM (x := .tmp 1) rfl rfl HF.out.m) ?_))
  refine (P2.out _ HF.out.i).mono ?_
  rintro r w' ⟨rfl, hb⟩
  have HF := Lib.hid (HF.out.call hb)
  clear hb c15 c21 c24
  have c15 := HF.out.m.cs.c15
  have c21 := HF.out.m.cs.c21
  have c24 := HF.out.m.cs.c24
  go_wp2_with (first | (refine st_yes (v := .agg (M.cells m)) (by rfl) rfl (run_loadM (x := .tmp 1) rfl rfl HF.out.m) ?_))
  refine (P3.out _ HF.out.i).mono ?_
  rintro r w' ⟨rfl, hb⟩
  have HF := Lib.hid (HF.out.call hb)
  clear hb c15 c21 c24
  have c15 := HF.out.m.cs.c15
  have c21 := HF.out.m.cs.c21
  have c24 := HF.out.m.cs.c24
  go_wp2_with (first | (refine st_yes (v := .agg (M.cells m)) (by rfl) rfl (run_loadM (x := .tmp 1) rfl rfl HF.out.m) ?_))
  go_ret
  exact ⟨bool_eq HY.out.symm, HF.out.bel⟩
set_option maxHeartbeats 12800000 in
theorem rright_any (m : M) (w : World) (hm : m.In w) (lb : ∀ x ∈ m.sl, x.1.size ≤ 1099511627776) : Calls Try.prog 25 #[.agg m.cells] w fun e w' => e = .returned (.bool (okE m)) ∧ Below w.heap.size w w' := by
  have HF := Lib.hid (Fs.new w m hm)
  have HY := Lib.hid (show okE m = (decide (m.kind = 5) && (bare m && ((decide (0 ≤ m.flags ∧ m.flags ≤ 1) && decide (1 ≤ m.ll.length ∧ m.ll.length ≤ 255)) && (okD m.ll && okX m.sl)))) from rfl)
  have P1 := Lib.hid (fun V (h : m.In V) => Bare.rbare_any m V h)
  rw [bare_eq] at P1
  have P3 := Lib.hid (fun V (h : m.In V) => Xp.rright_any m.sa m.sc m.sl V h.s h.sl lb)
  clear lb hm
  generalize okE m = y at *
  generalize bare m = x1 at *
  generalize okX m.sl = x3 at *
  go_enter Try.func25, Try.ntmps25
  go_upto_region 1 with fail
  generalize w.alloc (.cells m.cells 34) = V at *
  have c0 := HF.out.m.cs.c0
  have c15 := HF.out.m.cs.c15
  have c21 := HF.out.m.cs.c21
  have c24 := HF.out.m.cs.c24
  by_cases hk : m.kind = 5
  rotate_left
  · rw [decide_eq_false hk] at HY
    go_wp2
    go_ret
    exact ⟨bool_eq HY.out.symm, HF.out.bel⟩
  rw [decide_eq_true hk] at HY
  cases x1
  · go_wp2_with (first | (refine st_yes (v := .agg (M.cells m)) (by rfl) rfl (run_loadM (x := .tmp 1) rfl rfl HF.out.m) ?_))
    refine (P1.out _ HF.out.i).mono ?_
    rintro r w' ⟨rfl, hb⟩
    have HF := Lib.hid (HF.out.call hb)
    clear hb c15 c21 c24
    have c15 := HF.out.m.cs.c15
    have c21 := HF.out.m.cs.c21
    have c24 := HF.out.m.cs.c24
    go_wp2_with (first | (refine st_yes (v := .agg (M.cells m)) (by rfl) rfl (run_loadM (x := .tmp 1) rfl rfl HF.out.m) ?_))
    go_ret
    exact ⟨bool_eq HY.out.symm, HF.out.bel⟩
  by_cases f0 : 0 ≤ m.flags
  rotate_left
  · rw [decide_eq_false (p := 0 ≤ m.flags ∧ m.flags ≤ 1) (fun h => f0 h.1)] at HY
    go_wp2_with (first | (refine st_yes (v := .agg (M.cells m)) (by rfl) rfl (run_loadM (x := .tmp 1) rfl rfl HF.out.m) ?_))
    refine (P1.out _ HF.out.i).mono ?_
    rintro r w' ⟨rfl, hb⟩
    have HF := Lib.hid (HF.out.call hb)
    clear hb c15 c21 c24
    have c15 := HF.out.m.cs.c15
    have c21 := HF.out.m.cs.c21
    have c24 := HF.out.m.cs.c24
    go_wp2_with (first | (refine st_yes (v := .agg (M.cells m)) (by rfl) rfl (run_loadM (x := .tmp 1) rfl rfl HF.out.m) ?_))
    go_ret
    exact ⟨bool_eq HY.out.symm, HF.out.bel⟩
  by_cases f1 : m.flags ≤ 1
  rotate_left
  · rw [decide_eq_false (p := 0 ≤ m.flags ∧ m.flags ≤ 1) (fun h => f1 h.2)] at HY
    go_wp2_with (first | (refine st_yes (v := .agg (M.cells m)) (by rfl) rfl (run_loadM (x := .tmp 1) rfl rfl HF.out.m) ?_))
    refine (P1.out _ HF.out.i).mono ?_
    rintro r w' ⟨rfl, hb⟩
    have HF := Lib.hid (HF.out.call hb)
    clear hb c15 c21 c24
    have c15 := HF.out.m.cs.c15
    have c21 := HF.out.m.cs.c21
    have c24 := HF.out.m.cs.c24
    go_wp2_with (first | (refine st_yes (v := .agg (M.cells m)) (by rfl) rfl (run_loadM (x := .tmp 1) rfl rfl HF.out.m) ?_))
    go_ret
    exact ⟨bool_eq HY.out.symm, HF.out.bel⟩
  rw [decide_eq_true (p := 0 ≤ m.flags ∧ m.flags ≤ 1) ⟨f0, f1⟩] at HY
  by_cases n0 : 1 ≤ m.ll.length
  rotate_left
  · rw [decide_eq_false (p := 1 ≤ m.ll.length ∧ m.ll.length ≤ 255) (fun h => n0 h.1)] at HY
    go_wp2_with (first | (refine st_yes (v := .agg (M.cells m)) (by rfl) rfl (run_loadM (x := .tmp 1) rfl rfl HF.out.m) ?_))
    refine (P1.out _ HF.out.i).mono ?_
    rintro r w' ⟨rfl, hb⟩
    have HF := Lib.hid (HF.out.call hb)
    clear hb c15 c21 c24
    have c15 := HF.out.m.cs.c15
    have c21 := HF.out.m.cs.c21
    have c24 := HF.out.m.cs.c24
    go_wp2_with (first | (refine st_yes (v := .agg (M.cells m)) (by rfl) rfl (run_loadM (x := .tmp 1) rfl rfl HF.out.m) ?_))
    go_ret
    exact ⟨bool_eq HY.out.symm, HF.out.bel⟩
  by_cases n1 : m.ll.length ≤ 255
  rotate_left
  · rw [decide_eq_false (p := 1 ≤ m.ll.length ∧ m.ll.length ≤ 255) (fun h => n1 h.2)] at HY
    go_wp2_with (first | (refine st_yes (v := .agg (M.cells m)) (by rfl) rfl (run_loadM (x := .tmp 1) rfl rfl HF.out.m) ?_))
    refine (P1.out _ HF.out.i).mono ?_
    rintro r w' ⟨rfl, hb⟩
    have HF := Lib.hid (HF.out.call hb)
    clear hb c15 c21 c24
    have c15 := HF.out.m.cs.c15
    have c21 := HF.out.m.cs.c21
    have c24 := HF.out.m.cs.c24
    go_wp2_with (first | (refine st_yes (v := .agg (M.cells m)) (by rfl) rfl (run_loadM (x := .tmp 1) rfl rfl HF.out.m) ?_))
    go_ret
    exact ⟨bool_eq HY.out.symm, HF.out.bel⟩
  rw [decide_eq_true (p := 1 ≤ m.ll.length ∧ m.ll.length ≤ 255) ⟨n0, n1⟩] at HY
  cases x3
  · rw [Bool.and_false] at HY
    go_wp2_with (first | (refine st_yes (v := .agg (M.cells m)) (by rfl) rfl (run_loadM (x := .tmp 1) rfl rfl HF.out.m) ?_))
    refine (P1.out _ HF.out.i).mono ?_
    rintro r w' ⟨rfl, hb⟩
    have HF := Lib.hid (HF.out.call hb)
    clear hb c15 c21 c24
    have c15 := HF.out.m.cs.c15
    have c21 := HF.out.m.cs.c21
    have c24 := HF.out.m.cs.c24
    go_wp2_with (first | (refine st_yes (v := .agg (M.cells m)) (by rfl) rfl (run_loadM (x := .tmp 1) rfl rfl HF.out.m) ?_))
    refine (P3.out _ HF.out.i).mono ?_
    rintro r w' ⟨rfl, hb⟩
    have HF := Lib.hid (HF.out.call hb)
    clear hb c15 c21 c24
    have c15 := HF.out.m.cs.c15
    have c21 := HF.out.m.cs.c21
    have c24 := HF.out.m.cs.c24
    go_wp2_with (first | (refine st_yes (v := .agg (M.cells m)) (by rfl) rfl (run_loadM (x := .tmp 1) rfl rfl HF.out.m) ?_))
    go_ret
    exact ⟨bool_eq HY.out.symm, HF.out.bel⟩
  rw [Bool.and_true] at HY
  go_wp2_with (first | (refine st_yes (v := .agg (M.cells m)) (by rfl) rfl (run_loadM (x := .tmp 1) rfl rfl HF.out.m) ?_))
  refine (P1.out _ HF.out.i).mono ?_
  rintro r w' ⟨rfl, hb⟩
  have HF := Lib.hid (HF.out.call hb)
  clear hb c15 c21 c24
  have c15 := HF.out.m.cs.c15
  have c21 := HF.out.m.cs.c21
  have c24 := HF.out.m.cs.c24
  go_wp2_with (first | (refine st_yes (v := .agg (M.cells m)) (by rfl) rfl (run_loadM (x := .tmp 1) rfl rfl HF.out.m) ?_))
  refine (P3.out _ HF.out.i).mono ?_
  rintro r w' ⟨rfl, hb⟩
  have HF := Lib.hid (HF.out.call hb)
  clear hb c15 c21 c24
  have c15 := HF.out.m.cs.c15
  have c21 := HF.out.m.cs.c21
  have c24 := HF.out.m.cs.c24
  have HY : Hid (y = okD m.ll) := Lib.hid (by have := HY.out; simpa using this)
  go_upto_region 3 with fail
  clear c15 c24 c21
  generalize hx : m.ll = x at *
  have HW : Hid (DRow w' m.la x) := Lib.hid (by rw [← hx]; exact HF.out.i.d)
  have HC : Hid (w'.cell? ⟨w.heap.size, 21, none⟩ = some (.slice m.la x.length m.lc)) := Lib.hid (by rw [← hx]; exact HF.out.m.cs.c21)
  clear hx
  go_wp2
  go_loopw [3] (fun i wr => ∃ k : Nat, k ≤ x.length ∧ i = .int .i64 k ∧ Hid (okD (x.take k) = true) ∧ wr = w') (fun i _ => x.length - (intOf i).toNat)
  case atStart => exact ⟨0, Nat.zero_le _, rfl, Lib.hid rfl, rfl⟩
  case round =>
    obtain ⟨k, hk, rfl, HN, rfl⟩ := hrel
    have c21 := HC.out
    by_cases hlt : k < x.length
    · obtain ⟨p, hp, _, d0, d1⟩ := HW.out k hlt
      rw [hp] at c21
      have HT := Lib.hid (okD_take x k hlt)
      have HG := Lib.hid (okD_not x k hlt)
      clear hp
      rw [add_one] at d1
      generalize x[k] = u at *
      obtain ⟨d, n⟩ := u
      simp only [] at d0 d1
      have PF := Lib.hid (Oct.rfits_any n 4 wr)
      by_cases h4 : d.size = 4
      rotate_left
      · have h4' : ((d.size : Int) == 4) = false := by rw [beq_eq_false_iff_ne]; omega
        go_wp2
        go_ret
        exact ⟨bool_eq (by rw [HY.out, HG.out (one_wide d n h4)]), HF.out.bel⟩
      have h4' : (d.size : Int) = 4 := by omega
      cases hf : fitsB n 4
      · rw [hf] at PF
        go_wp2_with fail
        refine (PF.out).mono ?_
        rintro r w' ⟨rfl, rfl⟩
        go_wp2
        go_ret
        exact ⟨bool_eq (by rw [HY.out, HG.out (one_far d n hf)]), HF.out.bel⟩
      rw [hf] at PF
      go_wp2_with fail
      refine (PF.out).mono ?_
      rintro r w' ⟨rfl, rfl⟩
      go_wp2
      go_roundw
      case rel => exact ⟨k + 1, hlt, by go_num, Lib.hid (by rw [HT.out, HN.out, one_fits d n h4 hf]; rfl), by first | rfl | trivial⟩
      case measure => simp [intOf]; omega
    · obtain rfl : k = x.length := by omega
      rw [List.take_length] at HN
      go_wp2
      go_ret
      exact ⟨bool_eq (by rw [HY.out, HN.out]), HF.out.bel⟩
end Go.Proofs.Ytlelfapmleopaaa.Y2
