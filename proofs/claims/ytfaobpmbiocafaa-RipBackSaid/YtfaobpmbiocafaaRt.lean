/-
  The program's calls that tell whether a route may be. Condition: none, but that the message's lists stand in the world (Right).
-/
import Derived.Test.YtfaobpmbiocafaaRp
namespace Go.Proofs.Ytfaobpmbiocafaa.Rt
open Go.ChangeShapes Go.WideShapes Go.ChangeAt Go.RowKit
open Go.Proofs.Ytfaobpmbiocafaa.Ms
open Go.Proofs.Ytfaobpmbiocafaa.Box
open Go.Proofs.Ytfaobpmbiocafaa.Rp
open Go.Proofs.Ytfaobpmbiocafaa.Hs
open Go.Proofs.Ytfaobpmbiocafaa.Or (st_yes)
set_option linter.unusedVariables false
set_option maxRecDepth 100000

theorem cmd_any (n : Int) (w : World) : Calls Try.prog 40 #[.int .i64 n] w fun e w' => e = .returned (.bool (isCmd n)) ∧ w = w' := by
  by_cases h1 : n = 1
  · subst h1
    go_enter Try.func40, Try.ntmps40
    go_wp2
    go_ret
    exact ⟨rfl, rfl⟩
  by_cases h2 : n = 2
  · subst h2
    go_enter Try.func40, Try.ntmps40
    go_wp2
    go_ret
    exact ⟨rfl, rfl⟩
  have e1 : (n == 1) = false := by simpa using h1
  have e2 : (n == 2) = false := by simpa using h2
  have e : isCmd n = false := by unfold isCmd; rw [e1, e2]; rfl
  rw [e]
  clear e
  go_enter Try.func40, Try.ntmps40
  go_wp2
  go_ret
  exact ⟨rfl, rfl⟩
theorem ver_any (n : Int) (w : World) : Calls Try.prog 41 #[.int .i64 n] w fun e w' => e = .returned (.bool (isCmd n)) ∧ w = w' := by
  by_cases h1 : n = 1
  · subst h1
    go_enter Try.func41, Try.ntmps41
    go_wp2
    go_ret
    exact ⟨rfl, rfl⟩
  by_cases h2 : n = 2
  · subst h2
    go_enter Try.func41, Try.ntmps41
    go_wp2
    go_ret
    exact ⟨rfl, rfl⟩
  have e1 : (n == 1) = false := by simpa using h1
  have e2 : (n == 2) = false := by simpa using h2
  have e : isCmd n = false := by unfold isCmd; rw [e1, e2]; rfl
  rw [e]
  clear e
  go_enter Try.func41, Try.ntmps41
  go_wp2
  go_ret
  exact ⟨rfl, rfl⟩
theorem met_any (n : Int) (w : World) : Calls Try.prog 55 #[.int .i64 n] w fun e w' => e = .returned (.bool (isMet n)) ∧ w = w' := by
  by_cases h1 : 1 ≤ n
  · by_cases h2 : n ≤ 16
    · rw [show isMet n = true by unfold isMet; simp [h1, h2]]
      go_enter Try.func55, Try.ntmps55
      go_wp2
      go_ret
      exact ⟨rfl, rfl⟩
    · rw [show isMet n = false by unfold isMet; simp [h2]]
      go_enter Try.func55, Try.ntmps55
      go_wp2
      go_ret
      exact ⟨rfl, rfl⟩
  · rw [show isMet n = false by unfold isMet; simp [h1]]
    go_enter Try.func55, Try.ntmps55
    go_wp2
    go_ret
    exact ⟨rfl, rfl⟩

/-- what a function on a message begins with: its own copy of it -/
theorem boxed (w : World) (m : M) : Bx (w.alloc (.cells m.cells 34)) w.heap.size m ∧ Below w.heap.size w (w.alloc (.cells m.cells 34)) := ⟨Bx.new w m, balloc (Below.refl _ w) _⟩

set_option maxHeartbeats 1600000 in
theorem all_any (m : M) (w : World) : Calls Try.prog 54 #[.agg m.cells] w fun e w' => e = .returned (.bool (allB m)) ∧ Below w.heap.size w w' := by
  obtain ⟨b0, bel⟩ := boxed w m
  go_enter Try.func54, Try.ntmps54
  go_upto_region 1 with fail
  generalize w.alloc (.cells m.cells 34) = V at *
  have c1 := b0.cs.c1
  have c6 := b0.cs.c6
  have c7 := b0.cs.c7
  have c8 := b0.cs.c8
  have c9 := b0.cs.c9
  have c10 := b0.cs.c10
  clear b0
  have HA := Lib.hid (show allB m = (m.cmd == 1 && (m.tag == 0 && (m.plen == 0 && (isN m.pfx && (isN m.next && m.metric == 16))))) from rfl)
  have n1 : (m.pfx.toList == [0, 0, 0, 0]) = isN m.pfx := rfl
  have n2 : (m.next.toList == [0, 0, 0, 0]) = isN m.next := rfl
  generalize isN m.pfx = x4 at *
  generalize isN m.next = x5 at *
  generalize h1 : (m.cmd == 1) = x1 at *
  generalize h2 : (m.tag == 0) = x2 at *
  generalize h3 : (m.plen == 0) = x3 at *
  generalize h6 : (m.metric == 16) = x6 at *
  cases x1
  · have HZ := Lib.hid (show allB m = false by rw [HA.out]; rfl)
    clear HA
    go_wp2
    go_ret
    exact ⟨bool_eq HZ.out.symm, bel⟩
  cases x2
  · have HZ := Lib.hid (show allB m = false by rw [HA.out]; rfl)
    clear HA
    go_wp2
    go_ret
    exact ⟨bool_eq HZ.out.symm, bel⟩
  cases x3
  · have HZ := Lib.hid (show allB m = false by rw [HA.out]; rfl)
    clear HA
    go_wp2
    go_ret
    exact ⟨bool_eq HZ.out.symm, bel⟩
  cases x4
  · have HZ := Lib.hid (show allB m = false by rw [HA.out]; rfl)
    clear HA
    go_wp2
    go_ret
    exact ⟨bool_eq HZ.out.symm, bel⟩
  cases x5
  · have HZ := Lib.hid (show allB m = false by rw [HA.out]; rfl)
    clear HA
    go_wp2
    go_ret
    exact ⟨bool_eq HZ.out.symm, bel⟩
  have HZ := Lib.hid (show allB m = x6 by rw [HA.out]; cases x6 <;> rfl)
  clear HA
  go_wp2
  go_ret
  exact ⟨bool_eq HZ.out.symm, bel⟩
-- GEN
set_option maxHeartbeats 1600000 in
theorem one_any (m : M) (w : World) : Calls Try.prog 56 #[.agg m.cells] w fun e w' => e = .returned (.bool (oneB m)) ∧ Below w.heap.size w w' := by
  obtain ⟨b0, bel⟩ := boxed w m
  go_enter Try.func56, Try.ntmps56
  go_upto_region 1 with fail
  generalize w.alloc (.cells m.cells 34) = V at *
  have c6 := b0.cs.c6
  have c7 := b0.cs.c7
  have c8 := b0.cs.c8
  have c9 := b0.cs.c9
  have B0 := Lib.hid b0
  clear b0
  have HA := Lib.hid (show oneB m = (m.tag == 0 && (m.plen == 32 && (decide (m.pfx.size = 4) && isN m.next))) from rfl)
  have n5 : (m.next.toList == [0, 0, 0, 0]) = isN m.next := rfl
  have n4 : ((m.pfx.size : Int) == 4) = decide (m.pfx.size = 4) := by rw [Bool.eq_iff_iff, beq_iff_eq, decide_eq_true_iff]; omega
  generalize isN m.next = x4 at *
  generalize decide (m.pfx.size = 4) = x3 at *
  generalize h1 : (m.tag == 0) = x1 at *
  generalize h2 : (m.plen == 32) = x2 at *
  cases x1
  · have HZ := Lib.hid (show oneB m = false by rw [HA.out]; rfl)
    clear HA
    go_wp2
    go_ret
    exact ⟨bool_eq HZ.out.symm, bel⟩
  cases x2
  · have HZ := Lib.hid (show oneB m = false by rw [HA.out]; rfl)
    clear HA
    go_wp2
    go_ret
    exact ⟨bool_eq HZ.out.symm, bel⟩
  cases x3
  · have HZ := Lib.hid (show oneB m = false by rw [HA.out]; rfl)
    clear HA
    go_wp2
    go_ret
    exact ⟨bool_eq HZ.out.symm, bel⟩
  have HZ := Lib.hid (show oneB m = x4 by rw [HA.out]; cases x4 <;> rfl)
  clear HA
  go_wp2
  go_ret
  exact ⟨bool_eq HZ.out.symm, bel⟩
set_option maxHeartbeats 1600000 in
theorem two_any (m : M) (w : World) : Calls Try.prog 57 #[.agg m.cells] w fun e w' => e = .returned (.bool (twoB m)) ∧ Below w.heap.size w w' := by
  obtain ⟨b0, bel⟩ := boxed w m
  go_enter Try.func57, Try.ntmps57
  go_upto_region 1 with fail
  generalize w.alloc (.cells m.cells 34) = V at *
  have c6 := b0.cs.c6
  have c7 := b0.cs.c7
  have c8 := b0.cs.c8
  have c9 := b0.cs.c9
  have B0 := Lib.hid b0
  clear b0
  have HA := Lib.hid (show twoB m = (Oct.fitsB m.tag 2 && (decide (m.pfx.size = 4) && (Pre.rightZ m.pfx m.plen && decide (m.next.size = 4)))) from rfl)
  have P1 := Lib.hid (fun W => Oct.fits_any m.tag 2 W)
  have P3 := Lib.hid (fun W (h : m.pfx.size = 4) => Pre.right_any m.pfx m.plen W (by unfold maxLen; omega))
  have n5 : ((m.next.size : Int) == 4) = decide (m.next.size = 4) := by rw [Bool.eq_iff_iff, beq_iff_eq, decide_eq_true_iff]; omega
  have n4 : ((m.pfx.size : Int) == 4) = decide (m.pfx.size = 4) := by rw [Bool.eq_iff_iff, beq_iff_eq, decide_eq_true_iff]; omega
  generalize Oct.fitsB m.tag 2 = x1 at *
  generalize Pre.rightZ m.pfx m.plen = x3 at *
  generalize decide (m.next.size = 4) = x4 at *
  cases x1
  · have HZ := Lib.hid (show twoB m = false by rw [HA.out]; rfl)
    clear HA
    go_wp2_with fail
    refine (P1.out _).mono ?_
    rintro e w1 ⟨rfl, rfl⟩
    go_wp2
    go_ret
    exact ⟨bool_eq HZ.out.symm, bel⟩
  by_cases h4 : m.pfx.size = 4
  rotate_left
  · rw [decide_eq_false h4] at n4 HA
    have HZ := Lib.hid (show twoB m = false by rw [HA.out]; rfl)
    clear HA h4
    go_wp2_with fail
    refine (P1.out _).mono ?_
    rintro e w1 ⟨rfl, rfl⟩
    go_wp2
    go_ret
    exact ⟨bool_eq HZ.out.symm, bel⟩
  rw [decide_eq_true h4] at n4 HA
  have P3 := Lib.hid (fun W => P3.out W h4)
  clear h4
  cases x3
  · have HZ := Lib.hid (show twoB m = false by rw [HA.out]; rfl)
    clear HA
    go_wp2_with fail
    refine (P1.out _).mono ?_
    rintro e w1 ⟨rfl, rfl⟩
    go_wp2_with fail
    refine (P3.out _).mono ?_
    rintro e w2 ⟨rfl, hb⟩
    have bel := bcall bel hb
    clear hb c6 c7 c8 c9
    go_wp2
    go_ret
    exact ⟨bool_eq HZ.out.symm, bel⟩
  have HZ := Lib.hid (show twoB m = x4 by rw [HA.out]; cases x4 <;> rfl)
  clear HA
  go_wp2_with fail
  refine (P1.out _).mono ?_
  rintro e w1 ⟨rfl, rfl⟩
  go_wp2_with fail
  refine (P3.out _).mono ?_
  rintro e w2 ⟨rfl, hb⟩
  have bel := bcall bel hb
  have b1 := B0.out.below hb
  have d9 := b1.cs.c9
  clear hb c6 c7 c8 c9 b1
  go_wp2
  go_ret
  exact ⟨bool_eq HZ.out.symm, bel⟩
set_option maxHeartbeats 1600000 in
theorem auth_any (m : M) (w : World) : Calls Try.prog 53 #[.agg m.cells] w fun e w' => e = .returned (.bool (authB m)) ∧ Below w.heap.size w w' := by
  obtain ⟨b0, bel⟩ := boxed w m
  go_enter Try.func53, Try.ntmps53
  go_upto_region 1 with fail
  generalize w.alloc (.cells m.cells 34) = V at *
  have c2 := b0.cs.c2
  have c3 := b0.cs.c3
  have B0 := Lib.hid b0
  clear b0
  have HA := Lib.hid (show authB m = (decide (m.auth.size = 0) || (decide (m.auth.size = 18) && m.ver == 2)) from rfl)
  have P1 := Lib.hid (fun W => Au.put_any m.auth W)
  have hp : Au.putO m.auth = decide (m.auth.size = 18) := rfl
  rw [hp] at P1
  clear hp
  by_cases h0 : m.auth.size = 0
  · have HZ := Lib.hid (show authB m = true by rw [HA.out, decide_eq_true h0]; rfl)
    have he : m.auth = ⟨#[]⟩ := ByteArray.ext (Array.eq_empty_of_size_eq_zero h0)
    rw [he] at c3
    clear HA h0 he P1
    go_wp2
    go_ret
    exact ⟨bool_eq HZ.out.symm, bel⟩
  have hn : (m.auth.toList == []) = false := by
    rw [beq_eq_false_iff_ne]
    intro h
    rw [ByteArray.toList_eq] at h
    exact h0 (by have := congrArg List.length h; simpa using this)
  have hn2 : m.auth.toList.isEmpty = false := by
    cases h : m.auth.toList
    · rw [h] at hn; cases hn
    · rfl
  rw [decide_eq_false h0] at HA
  clear h0
  generalize decide (m.auth.size = 18) = x1 at *
  generalize h2 : (m.ver == 2) = x2 at *
  cases x1
  · have HZ := Lib.hid (show authB m = false by rw [HA.out]; rfl)
    clear HA
    go_wp2_with fail
    refine (P1.out _).mono ?_
    rintro e w1 ⟨rfl, rfl⟩
    go_wp2
    go_ret
    exact ⟨bool_eq HZ.out.symm, bel⟩
  have HZ := Lib.hid (show authB m = x2 by rw [HA.out]; cases x2 <;> rfl)
  clear HA
  go_wp2_with fail
  refine (P1.out _).mono ?_
  rintro e w1 ⟨rfl, rfl⟩
  go_wp2
  go_ret
  exact ⟨bool_eq HZ.out.symm, bel⟩
set_option maxHeartbeats 1600000 in
theorem head_any (m : M) (w : World) : Calls Try.prog 28 #[.agg m.cells] w fun e w' => e = .returned (.bool (headB m)) ∧ Below w.heap.size w w' := by
  obtain ⟨b0, bel⟩ := boxed w m
  go_enter Try.func28, Try.ntmps28
  go_upto_region 1 with fail
  generalize w.alloc (.cells m.cells 34) = V at *
  have c1 := b0.cs.c1
  have c2 := b0.cs.c2
  have B0 := Lib.hid b0
  clear b0
  have HA := Lib.hid (show headB m = (isCmd m.cmd && (isCmd m.ver && authB m)) from rfl)
  have P1 := Lib.hid (fun W => cmd_any m.cmd W)
  have P2 := Lib.hid (fun W => ver_any m.ver W)
  have P3 := Lib.hid (fun W => auth_any m W)
  generalize isCmd m.cmd = x1 at *
  generalize isCmd m.ver = x2 at *
  generalize authB m = x3 at *
  cases x1
  · have HZ := Lib.hid (show headB m = false by rw [HA.out]; rfl)
    clear HA
    go_wp2_with fail
    refine (P1.out _).mono ?_
    rintro e w1 ⟨rfl, rfl⟩
    go_wp2
    go_ret
    exact ⟨bool_eq HZ.out.symm, bel⟩
  cases x2
  · have HZ := Lib.hid (show headB m = false by rw [HA.out]; rfl)
    clear HA
    go_wp2_with fail
    refine (P1.out _).mono ?_
    rintro e w1 ⟨rfl, rfl⟩
    go_wp2_with fail
    refine (P2.out _).mono ?_
    rintro e w1 ⟨rfl, rfl⟩
    go_wp2
    go_ret
    exact ⟨bool_eq HZ.out.symm, bel⟩
  have HZ := Lib.hid (show headB m = x3 by rw [HA.out]; cases x3 <;> rfl)
  clear HA
  go_wp2_with fail
  refine (P1.out _).mono ?_
  rintro e w1 ⟨rfl, rfl⟩
  go_wp2_with fail
  refine (P2.out _).mono ?_
  rintro e w1 ⟨rfl, rfl⟩
  go_wp2_with (first | (refine st_yes (v := .agg (M.cells m)) (by rfl) rfl (run_loadM (x := .tmp 1) rfl rfl B0.out) ?_))
  refine (P3.out _).mono ?_
  rintro e w2 ⟨rfl, hb⟩
  have bel := bcall bel hb
  clear hb c1 c2
  go_wp2
  go_ret
  exact ⟨bool_eq HZ.out.symm, bel⟩
set_option maxHeartbeats 1600000 in
theorem route_any (m : M) (w : World) : Calls Try.prog 29 #[.agg m.cells] w fun e w' => e = .returned (.bool (routeB m)) ∧ Below w.heap.size w w' := by
  obtain ⟨b0, bel⟩ := boxed w m
  go_enter Try.func29, Try.ntmps29
  go_upto_region 1 with fail
  generalize w.alloc (.cells m.cells 34) = V at *
  have c2 := b0.cs.c2
  have c4 := b0.cs.c4
  have c10 := b0.cs.c10
  have B0 := Lib.hid b0
  clear b0
  have P0 := Lib.hid (fun W => all_any m W)
  have P1 := Lib.hid (fun W => met_any m.metric W)
  have P2 := Lib.hid (fun W => one_any m W)
  have P3 := Lib.hid (fun W => two_any m W)
  have HA := Lib.hid (show routeB m = if m.family = 0 then allB m else if m.family = 2 then isMet m.metric && (if m.ver = 1 then oneB m else twoB m) else false from rfl)
  by_cases h0 : m.family = 0
  · have HZ := Lib.hid (show routeB m = allB m by rw [HA.out, if_pos h0])
    have e0 : (m.family == 0) = true := by simpa using h0
    clear HA h0
    go_wp2_with (first | (refine wpList_loadM (b := w.heap.size) (m := m) rfl _ rfl rfl B0.out ?_))
    refine (P0.out _).mono ?_
    rintro e w2 ⟨rfl, hb⟩
    have bel := bcall bel hb
    clear hb c2 c4 c10
    go_wp2
    go_ret
    exact ⟨bool_eq HZ.out.symm, bel⟩
  have e0 : (m.family == 0) = false := by simpa using h0
  by_cases h2 : m.family = 2
  rotate_left
  · have HZ := Lib.hid (show routeB m = false by rw [HA.out, if_neg h0, if_neg h2])
    have e2 : (m.family == 2) = false := by simpa using h2
    clear HA h0 h2
    go_wp2
    go_ret
    exact ⟨bool_eq HZ.out.symm, bel⟩
  have e2 : (m.family == 2) = true := by simpa using h2
  by_cases h1 : m.ver = 1
  · have HA2 := Lib.hid (show routeB m = (isMet m.metric && oneB m) by rw [HA.out, if_neg h0, if_pos h2, if_pos h1])
    have e1 : (m.ver == 1) = true := by simpa using h1
    clear HA h0 h2 h1 P0 P3
    generalize isMet m.metric = x1 at *
    generalize oneB m = x2 at *
    cases x1
    · have HZ := Lib.hid (show routeB m = false by rw [HA2.out]; rfl)
      clear HA2
      go_wp2_with fail
      refine (P1.out _).mono ?_
      rintro e w1 ⟨rfl, rfl⟩
      go_wp2
      go_ret
      exact ⟨bool_eq HZ.out.symm, bel⟩
    have HZ := Lib.hid (show routeB m = x2 by rw [HA2.out]; cases x2 <;> rfl)
    clear HA2
    go_wp2_with fail
    refine (P1.out _).mono ?_
    rintro e w1 ⟨rfl, rfl⟩
    go_wp2_with (first | (refine st_yes (v := .agg (M.cells m)) (by rfl) rfl (run_loadM (x := .tmp 1) rfl rfl B0.out) ?_))
    refine (P2.out _).mono ?_
    rintro e w2 ⟨rfl, hb⟩
    have bel := bcall bel hb
    clear hb c2 c4 c10
    go_wp2
    go_ret
    exact ⟨bool_eq HZ.out.symm, bel⟩
  · have HA2 := Lib.hid (show routeB m = (isMet m.metric && twoB m) by rw [HA.out, if_neg h0, if_pos h2, if_neg h1])
    have e1 : (m.ver == 1) = false := by simpa using h1
    clear HA h0 h2 h1 P0 P2
    generalize isMet m.metric = x1 at *
    generalize twoB m = x2 at *
    cases x1
    · have HZ := Lib.hid (show routeB m = false by rw [HA2.out]; rfl)
      clear HA2
      go_wp2_with fail
      refine (P1.out _).mono ?_
      rintro e w1 ⟨rfl, rfl⟩
      go_wp2
      go_ret
      exact ⟨bool_eq HZ.out.symm, bel⟩
    have HZ := Lib.hid (show routeB m = x2 by rw [HA2.out]; cases x2 <;> rfl)
    clear HA2
    go_wp2_with fail
    refine (P1.out _).mono ?_
    rintro e w1 ⟨rfl, rfl⟩
    go_wp2_with (first | (refine st_yes (v := .agg (M.cells m)) (by rfl) rfl (run_loadM (x := .tmp 1) rfl rfl B0.out) ?_))
    refine (P3.out _).mono ?_
    rintro e w2 ⟨rfl, hb⟩
    have bel := bcall bel hb
    clear hb c2 c4 c10
    go_wp2
    go_ret
    exact ⟨bool_eq HZ.out.symm, bel⟩
set_option maxHeartbeats 1600000 in
theorem right_any (m : M) (w : World) (hm : m.In w) : Calls Try.prog 12 #[.agg m.cells] w fun e w' => e = .returned (.bool (rightB m)) ∧ Below w.heap.size w w' := by
  have hm1 := hm.below (boxed w m).2
  obtain ⟨b0, bel⟩ := boxed w m
  go_enter Try.func12, Try.ntmps12
  go_upto_region 1 with fail
  generalize w.alloc (.cells m.cells 34) = V at *
  have c0 := b0.cs.c0
  have B0 := Lib.hid b0
  clear b0
  have HA := Lib.hid (show rightB m = (m.kind == 1 && (Bare.bare1 m && (headB m && routeB m))) from rfl)
  have P2 := Lib.hid (fun W => head_any m W)
  have P3 := Lib.hid (fun W => route_any m W)
  have P1 := Lib.hid (fun (h : m.kind = 1) => Bare.bare_any m V h hm1)
  clear hm hm1
  generalize Bare.bare1 m = x2 at *
  generalize headB m = x3 at *
  generalize routeB m = x4 at *
  by_cases h1 : m.kind = 1
  rotate_left
  · have e1 : (m.kind == 1) = false := by simpa using h1
    rw [e1] at HA
    have HZ := Lib.hid (show rightB m = false by rw [HA.out]; rfl)
    clear HA h1 P1
    go_wp2
    go_ret
    exact ⟨bool_eq HZ.out.symm, bel⟩
  have e1 : (m.kind == 1) = true := by simpa using h1
  rw [e1] at HA
  have P1 := Lib.hid (P1.out h1)
  clear h1
  cases x2
  · have HZ := Lib.hid (show rightB m = false by rw [HA.out]; rfl)
    clear HA
    go_wp2_with (first | (refine st_yes (v := .agg (M.cells m)) (by rfl) rfl (run_loadM (x := .tmp 1) rfl rfl B0.out) ?_))
    refine P1.out.mono ?_
    rintro e w2 ⟨rfl, hb⟩
    have bel := bcall bel hb
    clear hb c0
    go_wp2
    go_ret
    exact ⟨bool_eq HZ.out.symm, bel⟩
  cases x3
  · have HZ := Lib.hid (show rightB m = false by rw [HA.out]; rfl)
    clear HA
    go_wp2_with (first | (refine st_yes (v := .agg (M.cells m)) (by rfl) rfl (run_loadM (x := .tmp 1) rfl rfl B0.out) ?_))
    refine P1.out.mono ?_
    rintro e w2 ⟨rfl, hb⟩
    have bel := bcall bel hb
    have B1 := Lib.hid (B0.out.below hb)
    clear hb c0
    go_wp2_with (first | (refine st_yes (v := .agg (M.cells m)) (by rfl) rfl (run_loadM (x := .tmp 1) rfl rfl B1.out) ?_))
    refine (P2.out _).mono ?_
    rintro e w3 ⟨rfl, hb⟩
    have bel := bcall bel hb
    clear hb
    go_wp2
    go_ret
    exact ⟨bool_eq HZ.out.symm, bel⟩
  have HZ := Lib.hid (show rightB m = x4 by rw [HA.out]; cases x4 <;> rfl)
  clear HA
  go_wp2_with (first | (refine st_yes (v := .agg (M.cells m)) (by rfl) rfl (run_loadM (x := .tmp 1) rfl rfl B0.out) ?_))
  refine P1.out.mono ?_
  rintro e w2 ⟨rfl, hb⟩
  have bel := bcall bel hb
  have B1 := Lib.hid (B0.out.below hb)
  clear hb c0
  go_wp2_with (first | (refine st_yes (v := .agg (M.cells m)) (by rfl) rfl (run_loadM (x := .tmp 1) rfl rfl B1.out) ?_))
  refine (P2.out _).mono ?_
  rintro e w3 ⟨rfl, hb⟩
  have bel := bcall bel hb
  have B2 := Lib.hid (B1.out.below hb)
  clear hb
  go_wp2_with (first | (refine st_yes (v := .agg (M.cells m)) (by rfl) rfl (run_loadM (x := .tmp 1) rfl rfl B2.out) ?_))
  refine (P3.out _).mono ?_
  rintro e w4 ⟨rfl, hb⟩
  have bel := bcall bel hb
  clear hb
  go_wp2
  go_ret
  exact ⟨bool_eq HZ.out.symm, bel⟩

set_option maxHeartbeats 1600000 in
/-- May it not be? -/
theorem wrong_any (m : M) (w : World) (hm : m.In w) : Calls Try.prog 34 #[.agg m.cells] w fun e w' => e = .returned (.bool (!rightB m)) ∧ Below w.heap.size w w' := by
  have hm1 := hm.below (boxed w m).2
  obtain ⟨b0, bel⟩ := boxed w m
  go_enter Try.func34, Try.ntmps34
  go_upto_region 1 with fail
  generalize w.alloc (.cells m.cells 34) = V at *
  have B0 := Lib.hid b0
  clear b0
  have P1 := Lib.hid (right_any m V hm1)
  clear hm hm1
  go_wp2_with (first | (refine wpList_loadM (b := w.heap.size) (m := m) rfl _ rfl rfl B0.out ?_))
  refine P1.out.mono ?_
  rintro e w2 ⟨rfl, hb⟩
  have bel := bcall bel hb
  clear hb
  go_wp2
  go_ret
  exact ⟨rfl, bel⟩
end Go.Proofs.Ytfaobpmbiocafaa.Rt
