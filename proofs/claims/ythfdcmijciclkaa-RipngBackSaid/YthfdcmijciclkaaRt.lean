/-
  addr's Link, the document's own, and the program's calls that tell whether a route may be. Condition: none, but that the message's lists stand in the world (Right).
-/
import Derived.Test.YthfdcmijciclkaaRp
import Derived.Deep.QuietTactic
import Derived.BigQuiet
namespace Go.Proofs.Ythfdcmijciclkaa.Rt
open Go.ChangeShapes Go.WideShapes Go.ChangeAt Go.RowKit
open Go.Proofs.Ythfdcmijciclkaa.Ms
open Go.Proofs.Ythfdcmijciclkaa.Box
open Go.Proofs.Ythfdcmijciclkaa.Rp
open Go.Proofs.Ythfdcmijciclkaa.Hs
open Go.Proofs.Ythfdcmijciclkaa.Or (st_yes)
set_option linter.unusedVariables false
set_option maxRecDepth 100000

theorem below_drewN {B : Nat} {a w : World} (h : Below B a w) (n : Nat) : Below B a (w.drewN n) := ⟨h.os, h.tape, h.output, h.size, h.block⟩
def lkH : ByteArray := ⟨#[254, 128, 0, 0, 0, 0, 0, 0]⟩
/- What the library's HasPrefix answers of sixteen bytes. -/
theorem lite_any (s : ByteArray) (h : s.size = 16) (w : World) :
    Calls Try.prog 67 #[.string s, .string ⟨#[254, 128, 0, 0, 0, 0, 0, 0]⟩] w fun e w' => e = .returned (.bool (lkB s)) ∧ w' = w := by
  unfold lkB
  go_enter Try.func67, Try.ntmps67
  go_wp2
  go_ret
  exact ⟨rfl, rfl⟩
theorem pre_any (s : ByteArray) (h : s.size = 16) (w : World) :
    Calls Try.prog 62 #[.string s, .string ⟨#[254, 128, 0, 0, 0, 0, 0, 0]⟩] w fun e w' => e = .returned (.bool (lkB s)) ∧ w' = w := by
  have P1 := Lib.hid (fun w => lite_any s h w)
  go_enter Try.func62, Try.ntmps62
  go_wp2_with fail
  refine (P1.out _).mono ?_
  rintro e w' ⟨rfl, rfl⟩
  go_wp2
  go_ret
  exact ⟨rfl, rfl⟩
theorem family_yes (s : ByteArray) (h : s.size = 16) (w : World) :
    Calls Try.prog 61 #[.string s] w fun e w' => e = .returned (.int .i64 1) ∧ w' = w := by
  have e0 : ((s.size : Int) == 4) = false := by rw [beq_eq_false_iff_ne]; omega
  have e1 : ((s.size : Int) == 16) = true := by rw [beq_iff_eq]; omega
  clear h
  go_enter Try.func61, Try.ntmps61
  go_wp2
  go_ret
  exact ⟨rfl, rfl⟩
theorem family_no (s : ByteArray) (h : s.size ≠ 16) (w : World) :
    Calls Try.prog 61 #[.string s] w fun e w' => (e = .returned (.int .i64 0) ∨ e = .returned (.int .i64 (-1))) ∧ w' = w := by
  have e1 : ((s.size : Int) == 16) = false := by rw [beq_eq_false_iff_ne]; omega
  by_cases h4 : s.size = 4
  · have e0 : ((s.size : Int) == 4) = true := by rw [beq_iff_eq]; omega
    clear h h4
    go_enter Try.func61, Try.ntmps61
    go_wp2
    go_ret
    exact ⟨.inl rfl, rfl⟩
  · have e0 : ((s.size : Int) == 4) = false := by rw [beq_eq_false_iff_ne]; omega
    clear h h4
    go_enter Try.func61, Try.ntmps61
    go_wp2
    go_ret
    exact ⟨.inr rfl, rfl⟩
theorem link_any (s : ByteArray) (w : World) :
    Calls Try.prog 52 #[.string s] w fun e w' => e = .returned (.bool (link s)) ∧ w' = w := by
  by_cases h : s.size = 16
  · rw [link_yes h]
    have P1 := Lib.hid (fun w => family_yes s h w)
    have P2 := Lib.hid (fun w => pre_any s h w)
    clear h
    generalize lkB s = x at *
    go_enter Try.func52, Try.ntmps52
    go_wp2_with fail
    refine (P1.out _).mono ?_
    rintro e w' ⟨rfl, rfl⟩
    go_wp2_with fail
    refine (P2.out _).mono ?_
    rintro e w' ⟨rfl, rfl⟩
    go_wp2
    go_ret
    exact ⟨rfl, rfl⟩
  · rw [link_no h]
    have P1 := Lib.hid (fun w => family_no s h w)
    clear h
    go_enter Try.func52, Try.ntmps52
    go_wp2_with fail
    refine (P1.out _).mono ?_
    rintro e w' ⟨rfl | rfl, rfl⟩
    all_goals
      go_wp2
      go_ret
      exact ⟨rfl, rfl⟩
theorem rl_any (w : World) : Calls Try.prog 45 #[] w fun e w' => e = .returned (.string lkH) ∧ w' = w := by
  go_enter Try.func45, Try.ntmps45
  go_wp2
  go_ret
  exact ⟨rfl, rfl⟩
theorem lkB_eq (s : ByteArray) : ((s.extract 0 8).toList == lkH.toList) = lkB s := by
  unfold lkB
  rw [show lkH.toList = [254, 128, 0, 0, 0, 0, 0, 0] by rw [ByteArray.toList_eq]; rfl]
theorem rlink_any (s : ByteArray) (w : World) :
    Calls Try.prog 22 #[.string s] w fun e w' => e = .returned (.bool (link s)) ∧ ∃ n, w' = w.drewN n := by
  by_cases h6 : s.size = 16
  · have hs : (8 : Int) ≤ (s.size : Int) := by omega
    have e1 : ((s.size : Int) == 16) = true := by rw [beq_iff_eq]; omega
    have HH := Lib.hid (link_yes h6)
    have HP := Lib.hid (lkB_eq s)
    clear h6
    go_enter Try.func22, Try.ntmps22
    go_wp2
    go_quiet ((go_at_call 45; exact Calls.quiet_of_same (rl_any _)))
    go_wp2
    go_ret
    refine ⟨bool_eq ?_, _, rfl⟩
    rw [HP.out]
    exact HH.out.symm
  · have e : link s = false := link_no h6
    have e1 : ((s.size : Int) == 16) = false := by rw [beq_eq_false_iff_ne]; omega
    rw [e]
    clear h6 e
    go_enter Try.func22, Try.ntmps22
    go_wp2
    go_quiet ((go_at_call 45; exact Calls.quiet_of_same (rl_any _)))
    go_wp2
    go_ret
    exact ⟨rfl, _, rfl⟩
theorem rlink_bel (s : ByteArray) (w : World) :
    Calls Try.prog 22 #[.string s] w fun e w' => e = .returned (.bool (link s)) ∧ Below w.heap.size w w' := by
  refine (rlink_any s w).mono ?_
  rintro e w' ⟨rfl, n, rfl⟩
  exact ⟨rfl, below_drewN (Below.refl _ _) n⟩
theorem none_any (w : World) : Calls Try.prog 20 #[] w fun e w' => e = .returned (.string none16) ∧ Below w.heap.size w w' := by
  have P1 := Lib.hid (fun W => Oct.rzeros_mid 16 W (by omega))
  have hn : (ByteArray.mk (List.replicate 16 (0 : UInt8)).toArray) = none16 := rfl
  rw [hn] at P1
  generalize none16 = z at *
  clear hn
  go_enter Try.func20, Try.ntmps20
  go_wp2_with fail
  refine (P1.out _).mono ?_
  rintro e w' ⟨rfl, hb⟩
  go_wp2
  go_ret
  exact ⟨rfl, hb⟩

/- The program. -/
theorem cmd_any (n : Int) (w : World) : Calls Try.prog 27 #[.int .i64 n] w fun e w' => e = .returned (.bool (isCmd n)) ∧ w = w' := by
  by_cases h1 : n = 1
  · subst h1
    go_enter Try.func27, Try.ntmps27
    go_wp2
    go_ret
    exact ⟨rfl, rfl⟩
  by_cases h2 : n = 2
  · subst h2
    go_enter Try.func27, Try.ntmps27
    go_wp2
    go_ret
    exact ⟨rfl, rfl⟩
  have e1 : (n == 1) = false := by simpa using h1
  have e2 : (n == 2) = false := by simpa using h2
  have e : isCmd n = false := by unfold isCmd; rw [e1, e2]; rfl
  rw [e]
  clear e
  go_enter Try.func27, Try.ntmps27
  go_wp2
  go_ret
  exact ⟨rfl, rfl⟩
theorem met_any (n : Int) (w : World) : Calls Try.prog 29 #[.int .i64 n] w fun e w' => e = .returned (.bool (isMet n)) ∧ w = w' := by
  by_cases h1 : 1 ≤ n
  · by_cases h2 : n ≤ 16
    · rw [show isMet n = true by unfold isMet; simp [h1, h2]]
      go_enter Try.func29, Try.ntmps29
      go_wp2
      go_ret
      exact ⟨rfl, rfl⟩
    · rw [show isMet n = false by unfold isMet; simp [h2]]
      go_enter Try.func29, Try.ntmps29
      go_wp2
      go_ret
      exact ⟨rfl, rfl⟩
  · rw [show isMet n = false by unfold isMet; simp [h1]]
    go_enter Try.func29, Try.ntmps29
    go_wp2
    go_ret
    exact ⟨rfl, rfl⟩
theorem pfx_any (s : ByteArray) (n : Int) (w : World) : Calls Try.prog 30 #[.string s, .int .i64 n] w fun e w' => e = .returned (.bool (pfxB s n)) ∧ Below w.heap.size w w' := by
  by_cases h : s.size = 16
  · have P1 := Lib.hid (fun W => Pre.right_any s n W (by unfold maxLen; omega))
    rw [pfx_yes h]
    have e1 : ((s.size : Int) == 16) = true := by rw [beq_iff_eq]; omega
    clear h
    generalize Pre.rightZ s n = x at *
    go_enter Try.func30, Try.ntmps30
    go_wp2_with fail
    refine (P1.out _).mono ?_
    rintro e w' ⟨rfl, hb⟩
    go_wp2
    go_ret
    exact ⟨rfl, hb⟩
  · rw [pfx_no h]
    have e1 : ((s.size : Int) == 16) = false := by rw [beq_eq_false_iff_ne]; omega
    clear h
    go_enter Try.func30, Try.ntmps30
    go_wp2
    go_ret
    exact ⟨rfl, Below.refl _ _⟩
theorem next_any (s : ByteArray) (w : World) : Calls Try.prog 31 #[.string s] w fun e w' => e = .returned (.bool (nextB s)) ∧ w = w' := by
  have P1 := Lib.hid (fun W => link_any s W)
  have HA := Lib.hid (show nextB s = (isN s || link s) from rfl)
  have n1 : (s.toList == [0, 0, 0, 0, 0, 0, 0, 0, 0, 0, 0, 0, 0, 0, 0, 0]) = isN s := rfl
  generalize link s = y at *
  generalize isN s = x at *
  cases x
  · have HZ := Lib.hid (show nextB s = y by rw [HA.out]; rfl)
    clear HA
    go_enter Try.func31, Try.ntmps31
    go_wp2_with fail
    refine (P1.out _).mono ?_
    rintro e w' ⟨rfl, rfl⟩
    go_wp2
    go_ret
    exact ⟨bool_eq HZ.out.symm, rfl⟩
  · have HZ := Lib.hid (show nextB s = true by rw [HA.out]; rfl)
    clear HA
    go_enter Try.func31, Try.ntmps31
    go_wp2
    go_ret
    exact ⟨bool_eq HZ.out.symm, rfl⟩

/-- what a function on a message begins with: its own copy of it -/
theorem boxed (w : World) (m : M) : Bx (w.alloc (.cells m.cells 34)) w.heap.size m ∧ Below w.heap.size w (w.alloc (.cells m.cells 34)) := ⟨Bx.new w m, balloc (Below.refl _ w) _⟩

set_option maxHeartbeats 3200000 in
theorem right_any (m : M) (w : World) (hm : m.In w) : Calls Try.prog 12 #[.agg m.cells] w fun e w' => e = .returned (.bool (rightB m)) ∧ Below w.heap.size w w' := by
  have hm1 := hm.below (boxed w m).2
  obtain ⟨b0, bel⟩ := boxed w m
  go_enter Try.func12, Try.ntmps12
  go_upto_region 1 with fail
  generalize w.alloc (.cells m.cells 34) = V at *
  have c0 := b0.cs.c0
  have B0 := Lib.hid b0
  clear b0
  have HA := Lib.hid (show rightB m = (m.kind == 2 && (Bare.bare2 m && (isCmd m.cmd && (Oct.fitsB m.tag 2 && (isMet m.metric && (pfxB m.pfx m.plen && nextB m.next)))))) from rfl)
  have P1 := Lib.hid (fun (h : m.kind = 2) => Bare.bare_any m V h hm1)
  have P2 := Lib.hid (fun W => cmd_any m.cmd W)
  have P3 := Lib.hid (fun W => Oct.fits_any m.tag 2 W)
  have P4 := Lib.hid (fun W => met_any m.metric W)
  have P5 := Lib.hid (fun W => pfx_any m.pfx m.plen W)
  have P6 := Lib.hid (fun W => next_any m.next W)
  clear hm hm1
  generalize Bare.bare2 m = x1 at *
  generalize isCmd m.cmd = x2 at *
  generalize Oct.fitsB m.tag 2 = x3 at *
  generalize isMet m.metric = x4 at *
  generalize pfxB m.pfx m.plen = x5 at *
  generalize nextB m.next = x6 at *
  by_cases h1 : m.kind = 2
  rotate_left
  · have e1 : (m.kind == 2) = false := by simpa using h1
    rw [e1] at HA
    have HZ := Lib.hid (show rightB m = false by rw [HA.out]; rfl)
    clear HA h1 P1
    go_wp2
    go_ret
    exact ⟨bool_eq HZ.out.symm, bel⟩
  have e1 : (m.kind == 2) = true := by simpa using h1
  rw [e1] at HA
  have P1 := Lib.hid (P1.out h1)
  clear h1
  cases x1
  · have HZ := Lib.hid (show rightB m = false by rw [HA.out]; rfl)
    clear HA
    go_wp2_with (first | (refine st_yes (v := .agg (M.cells m)) (by rfl) rfl (run_loadM (x := .tmp 1) rfl rfl B0.out) ?_))
    refine P1.out.mono ?_
    rintro e w1 ⟨rfl, hb⟩
    have bel := bcall bel hb
    have b1 := B0.out.below hb
    have c1 := b1.cs.c1
    have c6 := b1.cs.c6
    have c7 := b1.cs.c7
    have c8 := b1.cs.c8
    have c9 := b1.cs.c9
    have c10 := b1.cs.c10
    clear hb b1 c0
    go_wp2
    go_ret
    exact ⟨bool_eq HZ.out.symm, bel⟩
  cases x2
  · have HZ := Lib.hid (show rightB m = false by rw [HA.out]; rfl)
    clear HA
    go_wp2_with (first | (refine st_yes (v := .agg (M.cells m)) (by rfl) rfl (run_loadM (x := .tmp 1) rfl rfl B0.out) ?_))
    refine P1.out.mono ?_
    rintro e w1 ⟨rfl, hb⟩
    have bel := bcall bel hb
    have b1 := B0.out.below hb
    have c1 := b1.cs.c1
    have c6 := b1.cs.c6
    have c7 := b1.cs.c7
    have c8 := b1.cs.c8
    have c9 := b1.cs.c9
    have c10 := b1.cs.c10
    clear hb b1 c0
    go_wp2_with fail
    refine (P2.out _).mono ?_
    rintro e w2 ⟨rfl, rfl⟩
    go_wp2
    go_ret
    exact ⟨bool_eq HZ.out.symm, bel⟩
  cases x3
  · have HZ := Lib.hid (show rightB m = false by rw [HA.out]; rfl)
    clear HA
    go_wp2_with (first | (refine st_yes (v := .agg (M.cells m)) (by rfl) rfl (run_loadM (x := .tmp 1) rfl rfl B0.out) ?_))
    refine P1.out.mono ?_
    rintro e w1 ⟨rfl, hb⟩
    have bel := bcall bel hb
    have b1 := B0.out.below hb
    have c1 := b1.cs.c1
    have c6 := b1.cs.c6
    have c7 := b1.cs.c7
    have c8 := b1.cs.c8
    have c9 := b1.cs.c9
    have c10 := b1.cs.c10
    clear hb b1 c0
    go_wp2_with fail
    refine (P2.out _).mono ?_
    rintro e w2 ⟨rfl, rfl⟩
    go_wp2_with fail
    refine (P3.out _).mono ?_
    rintro e w3 ⟨rfl, rfl⟩
    go_wp2
    go_ret
    exact ⟨bool_eq HZ.out.symm, bel⟩
  cases x4
  · have HZ := Lib.hid (show rightB m = false by rw [HA.out]; rfl)
    clear HA
    go_wp2_with (first | (refine st_yes (v := .agg (M.cells m)) (by rfl) rfl (run_loadM (x := .tmp 1) rfl rfl B0.out) ?_))
    refine P1.out.mono ?_
    rintro e w1 ⟨rfl, hb⟩
    have bel := bcall bel hb
    have b1 := B0.out.below hb
    have c1 := b1.cs.c1
    have c6 := b1.cs.c6
    have c7 := b1.cs.c7
    have c8 := b1.cs.c8
    have c9 := b1.cs.c9
    have c10 := b1.cs.c10
    clear hb b1 c0
    go_wp2_with fail
    refine (P2.out _).mono ?_
    rintro e w2 ⟨rfl, rfl⟩
    go_wp2_with fail
    refine (P3.out _).mono ?_
    rintro e w3 ⟨rfl, rfl⟩
    go_wp2_with fail
    refine (P4.out _).mono ?_
    rintro e w4 ⟨rfl, rfl⟩
    go_wp2
    go_ret
    exact ⟨bool_eq HZ.out.symm, bel⟩
  cases x5
  · have HZ := Lib.hid (show rightB m = false by rw [HA.out]; rfl)
    clear HA
    go_wp2_with (first | (refine st_yes (v := .agg (M.cells m)) (by rfl) rfl (run_loadM (x := .tmp 1) rfl rfl B0.out) ?_))
    refine P1.out.mono ?_
    rintro e w1 ⟨rfl, hb⟩
    have bel := bcall bel hb
    have b1 := B0.out.below hb
    have c1 := b1.cs.c1
    have c6 := b1.cs.c6
    have c7 := b1.cs.c7
    have c8 := b1.cs.c8
    have c9 := b1.cs.c9
    have c10 := b1.cs.c10
    have B1 := Lib.hid b1
    clear hb b1 c0
    go_wp2_with fail
    refine (P2.out _).mono ?_
    rintro e w2 ⟨rfl, rfl⟩
    go_wp2_with fail
    refine (P3.out _).mono ?_
    rintro e w3 ⟨rfl, rfl⟩
    go_wp2_with fail
    refine (P4.out _).mono ?_
    rintro e w4 ⟨rfl, rfl⟩
    go_wp2_with fail
    refine (P5.out _).mono ?_
    rintro e w5 ⟨rfl, hb⟩
    have bel := bcall bel hb
    have b5 := B1.out.below hb
    have d9 := b5.cs.c9
    clear hb b5 c1 c6 c7 c8 c9 c10
    go_wp2
    go_ret
    exact ⟨bool_eq HZ.out.symm, bel⟩
  have HZ := Lib.hid (show rightB m = x6 by rw [HA.out]; cases x6 <;> rfl)
  clear HA
  go_wp2_with (first | (refine st_yes (v := .agg (M.cells m)) (by rfl) rfl (run_loadM (x := .tmp 1) rfl rfl B0.out) ?_))
  refine P1.out.mono ?_
  rintro e w1 ⟨rfl, hb⟩
  have bel := bcall bel hb
  have b1 := B0.out.below hb
  have c1 := b1.cs.c1
  have c6 := b1.cs.c6
  have c7 := b1.cs.c7
  have c8 := b1.cs.c8
  have c9 := b1.cs.c9
  have c10 := b1.cs.c10
  have B1 := Lib.hid b1
  clear hb b1 c0
  go_wp2_with fail
  refine (P2.out _).mono ?_
  rintro e w2 ⟨rfl, rfl⟩
  go_wp2_with fail
  refine (P3.out _).mono ?_
  rintro e w3 ⟨rfl, rfl⟩
  go_wp2_with fail
  refine (P4.out _).mono ?_
  rintro e w4 ⟨rfl, rfl⟩
  go_wp2_with fail
  refine (P5.out _).mono ?_
  rintro e w5 ⟨rfl, hb⟩
  have bel := bcall bel hb
  have b5 := B1.out.below hb
  have d9 := b5.cs.c9
  clear hb b5 c1 c6 c7 c8 c9 c10
  go_wp2_with fail
  refine (P6.out _).mono ?_
  rintro e w6 ⟨rfl, rfl⟩
  go_wp2
  go_ret
  exact ⟨bool_eq HZ.out.symm, bel⟩

set_option maxHeartbeats 1600000 in
/-- May it not be? -/
theorem wrong_any (m : M) (w : World) (hm : m.In w) : Calls Try.prog 34 #[.agg m.cells] w fun e w' => e = .returned (.bool (!rightB m)) ∧ Below w.heap.size w w' := by
  have hm1 := hm.below (boxed w m).2
  obtain ⟨b0, bel⟩ := boxed w m
  go_enter Try.func34, Try.ntmps34
  go_upto_region 1 with fail
  generalize w.alloc (.cells m.cells 34) = V at *
  have B0 := Lib.hid b0
  clear b0
  have P1 := Lib.hid (right_any m V hm1)
  clear hm hm1
  go_wp2_with (first | (refine wpList_loadM (b := w.heap.size) (m := m) rfl _ rfl rfl B0.out ?_))
  refine P1.out.mono ?_
  rintro e w2 ⟨rfl, hb⟩
  have bel := bcall bel hb
  clear hb
  go_wp2
  go_ret
  exact ⟨rfl, bel⟩
end Go.Proofs.Ythfdcmijciclkaa.Rt
