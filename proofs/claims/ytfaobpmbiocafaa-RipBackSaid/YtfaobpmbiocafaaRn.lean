/-
  The document's own: whether a route may be. Condition: the message's lists stand in the world, and aren't long.
-/
import Derived.Test.YtfaobpmbiocafaaRt
import Derived.BigQuiet
import Derived.Deep.QuietTactic
namespace Go.Proofs.Ytfaobpmbiocafaa.Rn
open Go.ChangeShapes Go.WideShapes Go.ChangeAt Go.RowKit
open Go.Proofs.Ytfaobpmbiocafaa.Ms
open Go.Proofs.Ytfaobpmbiocafaa.Box
open Go.Proofs.Ytfaobpmbiocafaa.Rp
open Go.Proofs.Ytfaobpmbiocafaa.Hs
open Go.Proofs.Ytfaobpmbiocafaa.Rt (boxed)
open Go.Proofs.Ytfaobpmbiocafaa.Or (st_yes)
set_option linter.unusedVariables false
set_option maxRecDepth 100000

theorem nought_any (w : World) : Calls Try.prog 31 #[] w fun e w' => e = .returned (.string ⟨#[0, 0, 0, 0]⟩) ∧ w = w' := by
  go_enter Try.func31, Try.ntmps31
  go_wp2
  go_ret
  exact ⟨rfl, rfl⟩

theorem nought_q (w : World) : Calls Try.prog 31 #[] w fun e w' => e = .returned (.string ⟨#[0, 0, 0, 0]⟩) ∧ w' = w := (nought_any w).mono fun _ _ ⟨h1, h2⟩ => ⟨h1, h2.symm⟩

theorem route_sizes {m : M} (h : routeB m = true) : m.pfx.size = 4 ∧ m.next.size = 4 := by
  unfold routeB at h
  by_cases h0 : m.family = 0
  · rw [if_pos h0] at h
    unfold allB at h
    simp only [Bool.and_eq_true] at h
    exact ⟨isN_size h.2.2.2.1, isN_size h.2.2.2.2.1⟩
  rw [if_neg h0] at h
  by_cases h2 : m.family = 2
  · rw [if_pos h2, Bool.and_eq_true] at h
    by_cases h1 : m.ver = 1
    · rw [if_pos h1] at h
      unfold oneB at h
      simp only [Bool.and_eq_true, decide_eq_true_eq] at h
      exact ⟨h.2.2.2.1, isN_size h.2.2.2.2⟩
    · rw [if_neg h1] at h
      unfold twoB at h
      simp only [Bool.and_eq_true, decide_eq_true_eq] at h
      exact ⟨h.2.2.1, h.2.2.2.2⟩
  · rw [if_neg h2] at h; cases h
theorem right_no_route {m : M} (h : routeB m = false) : rightB m = false := by unfold rightB; rw [h]; simp
theorem right_no_head {m : M} (h : headB m = false) : rightB m = false := by unfold rightB; rw [h]; simp
theorem right_no_size {m : M} (h : m.pfx.size ≠ 4 ∨ m.next.size ≠ 4) : rightB m = false := by
  refine right_no_route ?_
  cases hr : routeB m
  · rfl
  · have := route_sizes hr
    omega
theorem isCmd_no {n : Int} (h : n < 1 ∨ 2 < n) : isCmd n = false := by
  unfold isCmd
  have h1 : (n == 1) = false := by rw [beq_eq_false_iff_ne]; omega
  have h2 : (n == 2) = false := by rw [beq_eq_false_iff_ne]; omega
  rw [h1, h2]; rfl
theorem isCmd_yes {n : Int} (h1 : ¬ n < 1) (h2 : ¬ 2 < n) : isCmd n = true := by
  rcases (show n = 1 ∨ n = 2 by omega) with rfl | rfl <;> rfl
theorem right_no_cmd {m : M} (h : isCmd m.cmd = false) : rightB m = false := right_no_head (by unfold headB; rw [h]; rfl)
theorem right_no_ver {m : M} (h : isCmd m.ver = false) : rightB m = false := right_no_head (by unfold headB; rw [h]; simp)
theorem right_no_auth {m : M} (h : authB m = false) : rightB m = false := right_no_head (by unfold headB; rw [h]; simp)
theorem fits2 (n : Int) : Oct.fitsB n 2 = (decide (0 ≤ n) && decide (n ≤ 65535)) := by
  unfold Oct.fitsB
  have : ((Oct.pw (2 : Int).toNat : Nat) : Int) = 65536 := by decide
  rw [this]
  by_cases h1 : 0 ≤ n <;> by_cases h2 : n ≤ 65535 <;> simp [h1, h2] <;> omega

set_option maxHeartbeats 6400000 in
theorem rright_any (m : M) (w : World) (hm : m.In w) : Calls Try.prog 13 #[.agg m.cells] w fun e w' => e = .returned (.bool (rightB m)) ∧ Below w.heap.size w w' := by
  have hm1 := hm.below (boxed w m).2
  obtain ⟨b0, bel⟩ := boxed w m
  have P0 := Lib.hid (fun (h : m.kind = 1) => Bare.rbare_any m (w.alloc (.cells m.cells 34)) h hm1)
  have P3 := Lib.hid (fun W (h : m.pfx.size = 4) => Pre.rright_any m.pfx m.plen W (by unfold maxLen; omega))
  clear hm hm1
  go_enter Try.func13, Try.ntmps13
  go_upto_region 1 with fail
  generalize w.alloc (.cells m.cells 34) = V at *
  have B0 := Lib.hid b0
  have c0 := b0.cs.c0
  clear b0
  by_cases k1 : m.kind = 1
  rotate_left
  · have e1 : (m.kind == 1) = false := by simpa using k1
    have e2 : (m.kind != 1) = true := by rw [bne, e1]; rfl
    have HZ := Lib.hid (show rightB m = false by unfold rightB; rw [e1]; rfl)
    clear k1
    go_wp2
    go_ret
    exact ⟨bool_eq HZ.out.symm, bel⟩
  have e1 : (m.kind == 1) = true := by simpa using k1
  have e2 : (m.kind != 1) = false := by rw [bne, e1]; rfl
  have P0 := Lib.hid (P0.out k1)
  have HK := Lib.hid k1
  clear k1
  cases hb1 : Bare.bare1 m
  · have HZ := Lib.hid (show rightB m = false by unfold rightB; rw [hb1]; simp)
    rw [hb1] at P0
    clear hb1
    go_wp2_with (first | (refine st_yes (v := .agg (M.cells m)) (by rfl) rfl (run_loadM (x := .tmp 1) rfl rfl B0.out) ?_))
    refine P0.out.mono ?_
    rintro e w1 ⟨rfl, hb⟩
    have bel := bcall bel hb
    clear hb c0
    go_wp2
    go_ret
    exact ⟨bool_eq HZ.out.symm, bel⟩
  have HB := Lib.hid hb1
  rw [hb1] at P0
  clear hb1
  go_wp2_with (first | (refine st_yes (v := .agg (M.cells m)) (by rfl) rfl (run_loadM (x := .tmp 1) rfl rfl B0.out) ?_))
  refine P0.out.mono ?_
  rintro e w1 ⟨rfl, hb⟩
  have bel := bcall bel hb
  have b1 := B0.out.below hb
  have c1 := b1.cs.c1
  have c2 := b1.cs.c2
  have c3 := b1.cs.c3
  have c4 := b1.cs.c4
  have c6 := b1.cs.c6
  have c7 := b1.cs.c7
  have c8 := b1.cs.c8
  have c9 := b1.cs.c9
  have c10 := b1.cs.c10
  clear hb c0 B0 P0 b1 e1 e2
  by_cases q1 : m.cmd < 1
  · have HZ := Lib.hid (right_no_cmd (isCmd_no (.inl q1)))
    go_wp2
    go_ret
    exact ⟨bool_eq HZ.out.symm, bel⟩
  by_cases q2 : 2 < m.cmd
  · have HZ := Lib.hid (right_no_cmd (isCmd_no (.inr q2)))
    go_wp2
    go_ret
    exact ⟨bool_eq HZ.out.symm, bel⟩
  by_cases q3 : m.ver < 1
  · have HZ := Lib.hid (right_no_ver (isCmd_no (.inl q3)))
    go_wp2
    go_ret
    exact ⟨bool_eq HZ.out.symm, bel⟩
  by_cases q4 : 2 < m.ver
  · have HZ := Lib.hid (right_no_ver (isCmd_no (.inr q4)))
    go_wp2
    go_ret
    exact ⟨bool_eq HZ.out.symm, bel⟩
  by_cases q5 : m.pfx.size = 4
  rotate_left
  · have HZ := Lib.hid (right_no_size (.inl q5))
    have e5 : ((m.pfx.size : Int) == 4) = false := by rw [beq_eq_false_iff_ne]; omega
    have e6 : ((m.pfx.size : Int) != 4) = true := by rw [bne, e5]; rfl
    clear q5
    go_wp2
    go_ret
    exact ⟨bool_eq HZ.out.symm, bel⟩
  have e5 : ((m.pfx.size : Int) == 4) = true := by rw [beq_iff_eq]; omega
  have e6 : ((m.pfx.size : Int) != 4) = false := by rw [bne, e5]; rfl
  by_cases q6 : m.next.size = 4
  rotate_left
  · have HZ := Lib.hid (right_no_size (.inr q6))
    have e7 : ((m.next.size : Int) == 4) = false := by rw [beq_eq_false_iff_ne]; omega
    have e8 : ((m.next.size : Int) != 4) = true := by rw [bne, e7]; rfl
    clear q5 q6
    go_wp2
    go_ret
    exact ⟨bool_eq HZ.out.symm, bel⟩
  have e7 : ((m.next.size : Int) == 4) = true := by rw [beq_iff_eq]; omega
  have e8 : ((m.next.size : Int) != 4) = false := by rw [bne, e7]; rfl
  have P3 := Lib.hid (fun W => P3.out W q5)
  have HQ5 := Lib.hid q5
  have HQ6 := Lib.hid q6
  clear q5 q6
  go_upto_region 3 with fail
  clear e5 e6 e7 e8
  have HC : Hid (isCmd m.cmd = true ∧ isCmd m.ver = true) := Lib.hid ⟨isCmd_yes (by omega) (by omega), isCmd_yes (by omega) (by omega)⟩
  clear q1 q2 q3 q4
  have HS : Hid (authB m = true → rightB m = routeB m) := Lib.hid (fun h => by unfold rightB headB; rw [HK.out, HB.out, HC.out.1, HC.out.2, h]; simp)
  have HA := Lib.hid (show authB m = (decide (m.auth.size = 0) || (decide (m.auth.size = 18) && m.ver == 2)) from rfl)
  by_cases h0 : m.auth.size = 0
  case' pos =>
    have HR := Lib.hid (HS.out (by rw [HA.out, decide_eq_true h0]; rfl))
    have he : m.auth = ⟨#[]⟩ := ByteArray.ext (Array.eq_empty_of_size_eq_zero h0)
    rw [he] at c3
    clear HA h0 he HS
    go_upto_region 5 with fail
  case' neg =>
    have hn : (m.auth.toList == []) = false := by
      rw [beq_eq_false_iff_ne]
      intro h
      rw [ByteArray.toList_eq] at h
      exact h0 (by have := congrArg List.length h; simpa using this)
    have hn2 : m.auth.toList.isEmpty = false := by
      cases h : m.auth.toList
      · rw [h] at hn; cases hn
      · rfl
    have hn3 : ¬ m.auth.toList = [] := by rw [beq_eq_false_iff_ne] at hn; exact hn
    rw [decide_eq_false h0] at HA
    clear h0
    rcases (show m.ver ≠ 2 ∨ m.ver = 2 by omega) with v2 | v2
    · have e1 : (m.ver == 2) = false := by simpa using v2
      have e2 : (m.ver != 2) = true := by rw [bne, e1]; rfl
      have HZ := Lib.hid (right_no_auth (show authB m = false by rw [HA.out, e1]; simp))
      clear HA v2
      go_wp2
      go_ret
      exact ⟨bool_eq HZ.out.symm, bel⟩
    have e1 : (m.ver == 2) = true := by simpa using v2
    have e2 : (m.ver != 2) = false := by rw [bne, e1]; rfl
    rcases (show m.auth.size ≠ 18 ∨ m.auth.size = 18 by omega) with v3 | v3
    · have e3 : ((m.auth.size : Int) == 18) = false := by rw [beq_eq_false_iff_ne]; omega
      have e4 : ((m.auth.size : Int) != 18) = true := by rw [bne, e3]; rfl
      have HZ := Lib.hid (right_no_auth (show authB m = false by rw [HA.out, decide_eq_false v3]; simp))
      clear HA v2 v3
      go_wp2
      go_ret
      exact ⟨bool_eq HZ.out.symm, bel⟩
    have e3 : ((m.auth.size : Int) == 18) = true := by rw [beq_iff_eq]; omega
    have e4 : ((m.auth.size : Int) != 18) = false := by rw [bne, e3]; rfl
    have HR := Lib.hid (HS.out (by rw [HA.out, decide_eq_true v3, e1]; rfl))
    clear HA v2 v3 HS
    go_upto_region 5 with fail
    clear e1 e2 e3 e4 hn hn2 hn3
  all_goals
    clear c3
    have HF := Lib.hid (show routeB m = if m.family = 0 then allB m else if m.family = 2 then isMet m.metric && (if m.ver = 1 then oneB m else twoB m) else false from rfl)
    by_cases h0 : m.family = 0
    · have HR2 := Lib.hid (show rightB m = (m.cmd == 1 && (m.tag == 0 && (m.plen == 0 && (isN m.pfx && (isN m.next && m.metric == 16))))) by rw [HR.out, HF.out, if_pos h0]; rfl)
      have e0 : (m.family == 0) = true := by simpa using h0
      have n1 : (m.pfx.toList == [0, 0, 0, 0]) = isN m.pfx := rfl
      have n2 : (m.next.toList == [0, 0, 0, 0]) = isN m.next := rfl
      clear HF HR h0
      generalize isN m.pfx = x4 at *
      generalize isN m.next = x5 at *
      generalize g1 : (m.cmd == 1) = x1 at *
      generalize g2 : (m.tag == 0) = x2 at *
      generalize g3 : (m.plen == 0) = x3 at *
      generalize g6 : (m.metric == 16) = x6 at *
      cases x1
      · have HZ := Lib.hid (show rightB m = false by rw [HR2.out]; rfl)
        clear HR2
        go_wp2
        go_quiet ((go_at_call 31; exact Calls.quiet_of_same (nought_q _)))
        go_wp2
        go_ret
        exact ⟨bool_eq HZ.out.symm, below_drewN bel _⟩
      cases x2
      · have HZ := Lib.hid (show rightB m = false by rw [HR2.out]; rfl)
        clear HR2
        go_wp2
        go_quiet ((go_at_call 31; exact Calls.quiet_of_same (nought_q _)))
        go_wp2
        go_ret
        exact ⟨bool_eq HZ.out.symm, below_drewN bel _⟩
      cases x3
      · have HZ := Lib.hid (show rightB m = false by rw [HR2.out]; rfl)
        clear HR2
        go_wp2
        go_quiet ((go_at_call 31; exact Calls.quiet_of_same (nought_q _)))
        go_wp2
        go_ret
        exact ⟨bool_eq HZ.out.symm, below_drewN bel _⟩
      cases x4
      · have HZ := Lib.hid (show rightB m = false by rw [HR2.out]; rfl)
        clear HR2
        go_wp2
        go_quiet ((go_at_call 31; exact Calls.quiet_of_same (nought_q _)))
        go_wp2
        go_ret
        exact ⟨bool_eq HZ.out.symm, below_drewN bel _⟩
      cases x5
      · have HZ := Lib.hid (show rightB m = false by rw [HR2.out]; rfl)
        clear HR2
        go_wp2
        go_quiet ((go_at_call 31; exact Calls.quiet_of_same (nought_q _)))
        go_wp2
        go_ret
        exact ⟨bool_eq HZ.out.symm, below_drewN bel _⟩
      have HZ := Lib.hid (show rightB m = x6 by rw [HR2.out]; cases x6 <;> rfl)
      clear HR2
      go_wp2
      go_quiet ((go_at_call 31; exact Calls.quiet_of_same (nought_q _)))
      go_wp2
      go_ret
      exact ⟨bool_eq HZ.out.symm, below_drewN bel _⟩
    have e0 : (m.family == 0) = false := by simpa using h0
    rcases (show m.family ≠ 2 ∨ m.family = 2 by omega) with h2 | h2
    · have HZ := Lib.hid (show rightB m = false by rw [HR.out, HF.out, if_neg h0, if_neg h2])
      have e2 : (m.family == 2) = false := by simpa using h2
      have e3 : (m.family != 2) = true := by rw [bne, e2]; rfl
      clear HF HR h0 h2
      go_wp2
      go_ret
      exact ⟨bool_eq HZ.out.symm, bel⟩
    have e2 : (m.family == 2) = true := by simpa using h2
    have e3 : (m.family != 2) = false := by rw [bne, e2]; rfl
    have HR1 := Lib.hid (show rightB m = (isMet m.metric && (if m.ver = 1 then oneB m else twoB m)) by rw [HR.out, HF.out, if_neg h0, if_pos h2])
    clear HF HR h0 h2
    by_cases t1 : m.metric < 1
    · have HZ := Lib.hid (show rightB m = false by rw [HR1.out, show isMet m.metric = false by unfold isMet; simp; omega]; rfl)
      go_wp2
      go_ret
      exact ⟨bool_eq HZ.out.symm, bel⟩
    by_cases t2 : 16 < m.metric
    · have HZ := Lib.hid (show rightB m = false by rw [HR1.out, show isMet m.metric = false by unfold isMet; simp; omega]; rfl)
      go_wp2
      go_ret
      exact ⟨bool_eq HZ.out.symm, bel⟩
    have HR1 := Lib.hid (show rightB m = (if m.ver = 1 then oneB m else twoB m) by rw [HR1.out, show isMet m.metric = true by unfold isMet; simp; omega]; rfl)
    go_upto_region 9 with fail
    clear t1 t2 e0 e2 e3
    by_cases v1 : m.ver = 1
    · have HR2 := Lib.hid (show rightB m = (m.tag == 0 && (m.plen == 32 && isN m.next)) by rw [HR1.out, if_pos v1]; unfold oneB; rw [decide_eq_true HQ5.out]; rfl)
      have e1 : (m.ver == 1) = true := by simpa using v1
      have n2 : (m.next.toList == [0, 0, 0, 0]) = isN m.next := rfl
      clear HR1 v1
      generalize isN m.next = x3 at *
      generalize g1 : (m.tag == 0) = x1 at *
      generalize g2 : (m.plen == 32) = x2 at *
      cases x1
      · have HZ := Lib.hid (show rightB m = false by rw [HR2.out]; rfl)
        clear HR2
        go_wp2
        go_quiet ((go_at_call 31; exact Calls.quiet_of_same (nought_q _)))
        go_wp2
        go_ret
        exact ⟨bool_eq HZ.out.symm, below_drewN bel _⟩
      cases x2
      · have HZ := Lib.hid (show rightB m = false by rw [HR2.out]; rfl)
        clear HR2
        go_wp2
        go_quiet ((go_at_call 31; exact Calls.quiet_of_same (nought_q _)))
        go_wp2
        go_ret
        exact ⟨bool_eq HZ.out.symm, below_drewN bel _⟩
      have HZ := Lib.hid (show rightB m = x3 by rw [HR2.out]; cases x3 <;> rfl)
      clear HR2
      go_wp2
      go_quiet ((go_at_call 31; exact Calls.quiet_of_same (nought_q _)))
      go_wp2
      go_ret
      exact ⟨bool_eq HZ.out.symm, below_drewN bel _⟩
    have e1 : (m.ver == 1) = false := by simpa using v1
    have HR2 := Lib.hid (show rightB m = (decide (0 ≤ m.tag) && decide (m.tag ≤ 65535) && Pre.rightZ m.pfx m.plen) by rw [HR1.out, if_neg v1]; unfold twoB; rw [fits2, decide_eq_true HQ5.out, decide_eq_true HQ6.out]; simp)
    clear HR1 v1
    rcases (show ¬ 0 ≤ m.tag ∨ 0 ≤ m.tag by omega) with t1 | t1
    · have HZ := Lib.hid (show rightB m = false by rw [HR2.out, decide_eq_false t1]; rfl)
      clear HR2
      go_wp2
      go_ret
      exact ⟨bool_eq HZ.out.symm, bel⟩
    rcases (show ¬ m.tag ≤ 65535 ∨ m.tag ≤ 65535 by omega) with t2 | t2
    · have HZ := Lib.hid (show rightB m = false by rw [HR2.out, decide_eq_false t2]; simp)
      clear HR2
      go_wp2
      go_ret
      exact ⟨bool_eq HZ.out.symm, bel⟩
    have HZ := Lib.hid (show rightB m = Pre.rightZ m.pfx m.plen by rw [HR2.out, decide_eq_true t1, decide_eq_true t2]; rfl)
    clear HR2
    generalize Pre.rightZ m.pfx m.plen = z at *
    go_wp2_with fail
    refine (P3.out _).mono ?_
    rintro e w2 ⟨rfl, hb⟩
    have bel := bcall bel hb
    clear hb c1 c2 c4 c6 c7 c8 c9 c10
    go_wp2
    go_ret
    exact ⟨bool_eq HZ.out.symm, bel⟩
end Go.Proofs.Ytfaobpmbiocafaa.Rn
