/-
  The document's Family, Link, Short, Long, Map, Unmap: by the same functions of the bytes. No condition.
-/
import Derived.Test.YtjppfalckfmalaaDoorFo
namespace Go.Proofs.YtjppfalckfmalaaDoor.RFo
open Go.ChangeShapes Go.WideShapes Go.ChangeAt Go.RowKit
open Go.Proofs.YtjppfalckfmalaaDoor.Sb
open Go.Proofs.YtjppfalckfmalaaDoor.Ad
open Go.Proofs.YtjppfalckfmalaaDoor.Tab
open Go.Proofs.YtjppfalckfmalaaDoor.Tr
open Go.Proofs.YtjppfalckfmalaaDoor.Fo
set_option linter.unusedVariables false

theorem rfamily_any (a : ByteArray) (w : World) :
    Calls Tryd.prog 12 #[.string a] w fun e w' => e = .returned (.int .i64 (fam a)) ∧ w' = w := by
  by_cases h4 : a.size = 4
  · rw [fam4 h4]
    go_enter Tryd.func12, Tryd.ntmps12
    go_wp2
    go_ret
    exact ⟨rfl, rfl⟩
  · have e1 : ((a.size : Int) == 4) = false := by rw [beq_eq_false_iff_ne]; omega
    by_cases h6 : a.size = 16
    · rw [fam6 h6]
      go_enter Tryd.func12, Tryd.ntmps12
      go_wp2
      go_ret
      exact ⟨rfl, rfl⟩
    · rw [famN h4 h6]
      have e2 : ((a.size : Int) == 16) = false := by rw [beq_eq_false_iff_ne]; omega
      go_enter Tryd.func12, Tryd.ntmps12
      go_wp2
      go_ret
      exact ⟨rfl, rfl⟩

theorem rl_any (w : World) : Calls Tryd.prog 23 #[] w fun e w' => e = .returned (.string lkH) ∧ w' = w := by
  go_enter Tryd.func23, Tryd.ntmps23
  go_wp2
  go_ret
  exact ⟨rfl, rfl⟩
theorem rm_any (w : World) : Calls Tryd.prog 25 #[] w fun e w' => e = .returned (.string mpH) ∧ w' = w := by
  go_enter Tryd.func25, Tryd.ntmps25
  go_wp2
  go_ret
  exact ⟨rfl, rfl⟩

theorem below_drewN {B : Nat} {a w : World} (h : Below B a w) (n : Nat) : Below B a (w.drewN n) := ⟨h.os, h.tape, h.output, h.size, h.block⟩

theorem pre_raw (a p : ByteArray) (n : Nat) (hp : p.size = n) (h : n ≤ a.size) : ((a.extract 0 n).toList == p.toList) = Lib.hasPrefix a.data.toList p.data.toList := by
  have := Lib.hasPrefix_raw a p
  rw [hp, decide_eq_true h, Bool.true_and] at this
  exact this

theorem rlink_any (a : ByteArray) (w : World) :
    Calls Tryd.prog 14 #[.string a] w fun e w' => e = .returned (.bool (lnk a)) ∧ ∃ n, w' = w.drewN n := by
  by_cases h6 : a.size = 16
  · have hs : (8 : Int) ≤ (a.size : Int) := by omega
    have e1 : ((a.size : Int) == 16) = true := by rw [beq_iff_eq]; omega
    have HH := Lib.hid (six_yes (p := lkL) h6)
    have HP := Lib.hid (pre_raw a lkH 8 rfl (by omega))
    clear h6
    go_enter Tryd.func14, Tryd.ntmps14
    go_wp2
    go_quiet ((go_at_call 23; exact Calls.quiet_of_same (rl_any _)))
    go_wp2
    go_ret
    refine ⟨bool_eq ?_, _, rfl⟩
    rw [HP.out]
    exact HH.out.symm
  · have e : lnk a = false := six_no h6
    have e1 : ((a.size : Int) == 16) = false := by rw [beq_eq_false_iff_ne]; omega
    rw [e]
    clear h6 e
    go_enter Tryd.func14, Tryd.ntmps14
    go_wp2
    go_quiet ((go_at_call 23; exact Calls.quiet_of_same (rl_any _)))
    go_wp2
    go_ret
    exact ⟨rfl, _, rfl⟩

theorem rshort_any (a : ByteArray) (w : World) :
    Calls Tryd.prog 8 #[.string a] w fun e w' => e = .returned (.tuple #[.string (shA a), .bool (lnk a)]) ∧ ∃ n, w' = w.drewN n := by
  have P1 := Lib.hid (fun w => rlink_any a w)
  cases hl : lnk a with
  | false =>
    have e : shA a = ByteArray.empty := by unfold shA; rw [hl]; rfl
    rw [e]
    rw [hl] at P1
    clear hl e
    go_enter Tryd.func8, Tryd.ntmps8
    go_wp2_with (go_at_call 14; refine (P1.out _).mono ?_; rintro e w' ⟨rfl, n, rfl⟩)
    go_ret2
    exact ⟨rfl, _, rfl⟩
  | true =>
    have e : shA a = a.extract 8 a.size := by unfold shA; rw [hl]; rfl
    have hs : (8 : Int) ≤ (a.size : Int) := by
      by_cases h6 : a.size = 16
      · omega
      · have : lnk a = false := six_no h6
        rw [this] at hl; cases hl
    rw [e]
    rw [hl] at P1
    clear hl e
    go_enter Tryd.func8, Tryd.ntmps8
    go_wp2_with (go_at_call 14; refine (P1.out _).mono ?_; rintro e w' ⟨rfl, n, rfl⟩)
    go_ret2
    exact ⟨rfl, _, rfl⟩

theorem rlong_any (a : ByteArray) (w : World) :
    Calls Tryd.prog 10 #[.string a] w fun e w' => e = .returned (.tuple #[.string (lgA a), .bool (lgO a)]) ∧ ∃ n, w' = w.drewN n := by
  by_cases h : a.size = 8
  · have e1 : lgA a = lkH ++ a := if_pos h
    have e2 : lgO a = true := decide_eq_true h
    have hne : ((a.size : Int) != 8) = false := by rw [h]; rfl
    rw [e1, e2]
    clear e1 e2
    go_enter Tryd.func10, Tryd.ntmps10
    go_wp2
    go_ret2
    exact ⟨rfl, 0, by simp [World.drewN_zero]⟩
  · have e1 : lgA a = ByteArray.empty := if_neg h
    have e2 : lgO a = false := decide_eq_false h
    have hne : ((a.size : Int) != 8) = true := by rw [bne_iff_ne]; omega
    rw [e1, e2]
    clear e1 e2
    go_enter Tryd.func10, Tryd.ntmps10
    go_wp2
    go_ret2
    exact ⟨rfl, 0, by simp [World.drewN_zero]⟩

theorem rmap_any (a : ByteArray) (w : World) :
    Calls Tryd.prog 16 #[.string a] w fun e w' => e = .returned (.tuple #[.string (mpA a), .bool (mpO a)]) ∧ ∃ n, w' = w.drewN n := by
  by_cases h : a.size = 4
  · have e1 : mpA a = mpH ++ a := if_pos h
    have e2 : mpO a = true := decide_eq_true h
    have hne : ((a.size : Int) != 4) = false := by rw [h]; rfl
    rw [e1, e2]
    clear e1 e2
    go_enter Tryd.func16, Tryd.ntmps16
    go_wp2
    go_ret2
    exact ⟨rfl, 0, by simp [World.drewN_zero]⟩
  · have e1 : mpA a = ByteArray.empty := if_neg h
    have e2 : mpO a = false := decide_eq_false h
    have hne : ((a.size : Int) != 4) = true := by rw [bne_iff_ne]; omega
    rw [e1, e2]
    clear e1 e2
    go_enter Tryd.func16, Tryd.ntmps16
    go_wp2
    go_ret2
    exact ⟨rfl, 0, by simp [World.drewN_zero]⟩

theorem runmap_any (a : ByteArray) (w : World) :
    Calls Tryd.prog 18 #[.string a] w fun e w' => e = .returned (.tuple #[.string (unA a), .bool (mpd a)]) ∧ ∃ n, w' = w.drewN n := by
  by_cases h6 : a.size = 16
  · have hs : (12 : Int) ≤ (a.size : Int) := by omega
    have e1 : ((a.size : Int) != 16) = false := by rw [h6]; rfl
    have hh : mpd a = Lib.hasPrefix a.data.toList mpL := six_yes h6
    have hp : ((a.extract 0 12).toList == mpH.toList) = mpd a := (pre_raw a mpH 12 rfl (by omega)).trans hh.symm
    clear h6 hh
    cases hl : mpd a with
    | false =>
      have e : unA a = ByteArray.empty := by unfold unA; rw [hl]; rfl
      rw [e]
      rw [hl] at hp
      clear hl e
      go_enter Tryd.func18, Tryd.ntmps18
      go_wp2
      go_quiet ((go_at_call 25; exact Calls.quiet_of_same (rm_any _)))
      go_wp2
      go_ret2
      exact ⟨rfl, _, rfl⟩
    | true =>
      have e : unA a = a.extract 12 a.size := by unfold unA; rw [hl]; rfl
      rw [e]
      rw [hl] at hp
      clear hl e
      go_enter Tryd.func18, Tryd.ntmps18
      go_wp2
      go_quiet ((go_at_call 25; exact Calls.quiet_of_same (rm_any _)))
      go_wp2
      go_ret2
      exact ⟨rfl, _, rfl⟩
  · have e : mpd a = false := six_no h6
    have e2 : unA a = ByteArray.empty := by unfold unA; rw [e]; rfl
    have e1 : ((a.size : Int) != 16) = true := by rw [bne_iff_ne]; omega
    rw [e, e2]
    clear h6 e e2
    go_enter Tryd.func18, Tryd.ntmps18
    go_wp2
    go_quiet ((go_at_call 25; exact Calls.quiet_of_same (rm_any _)))
    go_wp2
    go_ret2
    exact ⟨rfl, _, rfl⟩
end Go.Proofs.YtjppfalckfmalaaDoor.RFo
