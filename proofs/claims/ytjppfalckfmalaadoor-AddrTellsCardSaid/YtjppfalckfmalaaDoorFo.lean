/-
  addr's Link, Short, Long, Map, Unmap, and the document's: each by one function of the bytes. No condition.
-/
import Derived.Test.YtjppfalckfmalaaDoorTr
namespace Go.Proofs.YtjppfalckfmalaaDoor.Fo
open Go.ChangeShapes Go.WideShapes Go.ChangeAt Go.RowKit
open Go.Proofs.YtjppfalckfmalaaDoor.Sb
open Go.Proofs.YtjppfalckfmalaaDoor.Ad
open Go.Proofs.YtjppfalckfmalaaDoor.Tab
open Go.Proofs.YtjppfalckfmalaaDoor.Tr
set_option linter.unusedVariables false

def lkL : List UInt8 := [254, 128, 0, 0, 0, 0, 0, 0]
def mpL : List UInt8 := [0, 0, 0, 0, 0, 0, 0, 0, 0, 0, 255, 255]
def lkH : ByteArray := ⟨#[254, 128, 0, 0, 0, 0, 0, 0]⟩
def mpH : ByteArray := ⟨#[0, 0, 0, 0, 0, 0, 0, 0, 0, 0, 255, 255]⟩
def six (a : ByteArray) (p : List UInt8) : Bool := decide (a.size = 16) && Lib.hasPrefix a.data.toList p
theorem six_no {a : ByteArray} {p : List UInt8} (h : a.size ≠ 16) : six a p = false := by unfold six; rw [decide_eq_false h]; rfl
theorem six_yes {a : ByteArray} {p : List UInt8} (h : a.size = 16) : six a p = Lib.hasPrefix a.data.toList p := by unfold six; rw [decide_eq_true h]; rfl
def lnk (a : ByteArray) : Bool := six a lkL
def mpd (a : ByteArray) : Bool := six a mpL
def shA (a : ByteArray) : ByteArray := if lnk a then a.extract 8 a.size else ByteArray.empty
def unA (a : ByteArray) : ByteArray := if mpd a then a.extract 12 a.size else ByteArray.empty
def lgO (a : ByteArray) : Bool := decide (a.size = 8)
def lgA (a : ByteArray) : ByteArray := if a.size = 8 then lkH ++ a else ByteArray.empty
def mpO (a : ByteArray) : Bool := decide (a.size = 4)
def mpA (a : ByteArray) : ByteArray := if a.size = 4 then mpH ++ a else ByteArray.empty

theorem link_any (a : ByteArray) (w : World) :
    Calls Tryd.prog 13 #[.string a] w fun e w' => e = .returned (.bool (lnk a)) ∧ w' = w := by
  have P1 := Lib.hid (fun w => family_any a w)
  have P2 := Lib.hid (fun w => Tryd.strings_HasPrefix a lkH w)
  by_cases h6 : a.size = 16
  · have e : lnk a = Lib.hasPrefix a.data.toList lkL := six_yes h6
    rw [e]
    rw [fam6 h6] at P1
    unfold lkH at P2
    clear h6 e
    go_enter Tryd.func13, Tryd.ntmps13
    go_wp2_with (first
      | (go_at_call 11; refine (P1.out _).mono ?_; rintro e w' ⟨rfl, rfl⟩)
      | (go_at_call 24; refine (P2.out _).mono ?_; rintro e w' ⟨rfl, rfl⟩))
    go_ret
    exact ⟨rfl, rfl⟩
  · have e : lnk a = false := six_no h6
    have hf : fam a = 0 ∨ fam a = -1 := by
      by_cases h4 : a.size = 4
      · exact .inl (fam4 h4)
      · exact .inr (famN h4 h6)
    rw [e]
    clear h6 e
    rcases hf with hf | hf
    all_goals
      rw [hf] at P1
      clear hf
      go_enter Tryd.func13, Tryd.ntmps13
      go_wp2_with (first
        | (go_at_call 11; refine (P1.out _).mono ?_; rintro e w' ⟨rfl, rfl⟩)
        | (go_at_call 24; refine (P2.out _).mono ?_; rintro e w' ⟨rfl, rfl⟩))
      go_ret
      exact ⟨rfl, rfl⟩

theorem short_any (a : ByteArray) (w : World) :
    Calls Tryd.prog 7 #[.string a] w fun e w' => e = .returned (.tuple #[.string (shA a), .bool (lnk a)]) ∧ w' = w := by
  have P1 := Lib.hid (fun w => link_any a w)
  cases hl : lnk a with
  | false =>
    have e : shA a = ByteArray.empty := by unfold shA; rw [hl]; rfl
    rw [e]
    rw [hl] at P1
    clear hl e
    go_enter Tryd.func7, Tryd.ntmps7
    go_wp2_with (go_at_call 13; refine (P1.out _).mono ?_; rintro e w' ⟨rfl, rfl⟩)
    go_ret2
    exact ⟨rfl, rfl⟩
  | true =>
    have e : shA a = a.extract 8 a.size := by unfold shA; rw [hl]; rfl
    have hs : (8 : Int) ≤ (a.size : Int) := by
      by_cases h6 : a.size = 16
      · omega
      · have : lnk a = false := six_no h6
        rw [this] at hl; cases hl
    rw [e]
    rw [hl] at P1
    clear hl e
    go_enter Tryd.func7, Tryd.ntmps7
    go_wp2_with (go_at_call 13; refine (P1.out _).mono ?_; rintro e w' ⟨rfl, rfl⟩)
    go_ret2
    exact ⟨rfl, rfl⟩

theorem long_any (a : ByteArray) (w : World) :
    Calls Tryd.prog 9 #[.string a] w fun e w' => e = .returned (.tuple #[.string (lgA a), .bool (lgO a)]) ∧ w' = w := by
  by_cases h : a.size = 8
  · have e1 : lgA a = lkH ++ a := if_pos h
    have e2 : lgO a = true := decide_eq_true h
    have hne : ((a.size : Int) != 8) = false := by rw [h]; rfl
    rw [e1, e2]
    clear e1 e2
    go_enter Tryd.func9, Tryd.ntmps9
    go_wp2
    go_ret2
    exact ⟨rfl, rfl⟩
  · have e1 : lgA a = ByteArray.empty := if_neg h
    have e2 : lgO a = false := decide_eq_false h
    have hne : ((a.size : Int) != 8) = true := by rw [bne_iff_ne]; omega
    rw [e1, e2]
    clear e1 e2
    go_enter Tryd.func9, Tryd.ntmps9
    go_wp2
    go_ret2
    exact ⟨rfl, rfl⟩

theorem map_any (a : ByteArray) (w : World) :
    Calls Tryd.prog 15 #[.string a] w fun e w' => e = .returned (.tuple #[.string (mpA a), .bool (mpO a)]) ∧ w' = w := by
  have P1 := Lib.hid (fun w => family_any a w)
  by_cases h : a.size = 4
  · have e1 : mpA a = mpH ++ a := if_pos h
    have e2 : mpO a = true := decide_eq_true h
    rw [e1, e2]
    rw [fam4 h] at P1
    clear e1 e2
    go_enter Tryd.func15, Tryd.ntmps15
    go_wp2_with (go_at_call 11; refine (P1.out _).mono ?_; rintro e w' ⟨rfl, rfl⟩)
    go_ret2
    exact ⟨rfl, rfl⟩
  · have e1 : mpA a = ByteArray.empty := if_neg h
    have e2 : mpO a = false := decide_eq_false h
    have hf : fam a = 1 ∨ fam a = -1 := by
      by_cases h6 : a.size = 16
      · exact .inl (fam6 h6)
      · exact .inr (famN h h6)
    rw [e1, e2]
    clear e1 e2
    rcases hf with hf | hf
    all_goals
      rw [hf] at P1
      clear hf
      go_enter Tryd.func15, Tryd.ntmps15
      go_wp2_with (go_at_call 11; refine (P1.out _).mono ?_; rintro e w' ⟨rfl, rfl⟩)
      go_ret2
      exact ⟨rfl, rfl⟩

theorem unmap_any (a : ByteArray) (w : World) :
    Calls Tryd.prog 17 #[.string a] w fun e w' => e = .returned (.tuple #[.string (unA a), .bool (mpd a)]) ∧ w' = w := by
  have P1 := Lib.hid (fun w => family_any a w)
  have P2 := Lib.hid (fun w => Tryd.strings_HasPrefix a mpH w)
  by_cases h6 : a.size = 16
  · have hs : (12 : Int) ≤ (a.size : Int) := by omega
    have hh : mpd a = Lib.hasPrefix a.data.toList mpL := six_yes h6
    have hx : Lib.hasPrefix a.data.toList mpH.data.toList = mpd a := by rw [hh]; rfl
    rw [hx] at P2
    rw [fam6 h6] at P1
    unfold mpH at P2
    clear h6 hh hx
    cases hl : mpd a with
    | false =>
      have e : unA a = ByteArray.empty := by unfold unA; rw [hl]; rfl
      rw [e]
      rw [hl] at P2
      clear hl e
      go_enter Tryd.func17, Tryd.ntmps17
      go_wp2_with (first
        | (go_at_call 11; refine (P1.out _).mono ?_; rintro e w' ⟨rfl, rfl⟩)
        | (go_at_call 24; refine (P2.out _).mono ?_; rintro e w' ⟨rfl, rfl⟩))
      go_ret2
      exact ⟨rfl, rfl⟩
    | true =>
      have e : unA a = a.extract 12 a.size := by unfold unA; rw [hl]; rfl
      rw [e]
      rw [hl] at P2
      clear hl e
      go_enter Tryd.func17, Tryd.ntmps17
      go_wp2_with (first
        | (go_at_call 11; refine (P1.out _).mono ?_; rintro e w' ⟨rfl, rfl⟩)
        | (go_at_call 24; refine (P2.out _).mono ?_; rintro e w' ⟨rfl, rfl⟩))
      go_ret2
      exact ⟨rfl, rfl⟩
  · have e : mpd a = false := six_no h6
    have e2 : unA a = ByteArray.empty := by unfold unA; rw [e]; rfl
    have hf : fam a = 0 ∨ fam a = -1 := by
      by_cases h4 : a.size = 4
      · exact .inl (fam4 h4)
      · exact .inr (famN h4 h6)
    rw [e, e2]
    clear h6 e e2
    rcases hf with hf | hf
    all_goals
      rw [hf] at P1
      clear hf
      go_enter Tryd.func17, Tryd.ntmps17
      go_wp2_with (go_at_call 11; refine (P1.out _).mono ?_; rintro e w' ⟨rfl, rfl⟩)
      go_ret2
      exact ⟨rfl, rfl⟩
end Go.Proofs.YtjppfalckfmalaaDoor.Fo
