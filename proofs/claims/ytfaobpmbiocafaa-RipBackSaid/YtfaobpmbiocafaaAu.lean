/-
  auth's Is, Get and Put, and the document's own: each by one function of the bytes. Conditions: none beyond a string's bound.
-/
import Derived.Test.YtfaobpmbiocafaaRows
import Derived.WalkKit
import Derived.ProofKit
import Derived.OpenShut
import Derived.ShutString
import Derived.Lib.Hide
namespace Go.Proofs.Ytfaobpmbiocafaa.Au
open Go.ChangeShapes Go.WideShapes Go.ChangeAt Go.RowKit
set_option linter.unusedVariables false
set_option maxRecDepth 100000

def mk2 : ByteArray := ⟨#[255, 255]⟩
/-- The bytes begin with 255 255. -/
def starts (s : ByteArray) : Bool := (s.extract 0 2).toList == [255, 255]
def isA (s : ByteArray) : Bool := decide (s.size = 20) && starts s
def getA (s : ByteArray) : ByteArray := if isA s then s.extract 2 s.size else ByteArray.empty
def putO (s : ByteArray) : Bool := decide (s.size = 18)
def putA (s : ByteArray) : ByteArray := if s.size = 18 then mk2 ++ s else ByteArray.empty
theorem isA_no {s : ByteArray} (h : s.size ≠ 20) : isA s = false := by unfold isA; rw [decide_eq_false h]; rfl
theorem isA_yes {s : ByteArray} (h : s.size = 20) : isA s = starts s := by unfold isA; rw [decide_eq_true h]; rfl
theorem isA_size {s : ByteArray} (h : isA s = true) : s.size = 20 := Decidable.byContradiction fun n => by rw [isA_no n] at h; cases h

theorem two_bytes (s : ByteArray) (h : 1 < s.size) : (s.extract 0 2).toList = [s[0], s[1]] := by
  rw [ByteArray.toList_eq]
  apply List.ext_getElem
  · simp; omega
  · intro i h1 h2
    match i, h2 with
    | 0, _ => simp [ByteArray.getElem_eq_getElem_data]
    | 1, _ => simp [ByteArray.getElem_eq_getElem_data]
theorem byte_eq (a : UInt8) : (a == 255) = ((a.toNat : Int) == 255) := by
  rw [Bool.eq_iff_iff, beq_iff_eq, beq_iff_eq, ← UInt8.toNat_inj]
  show a.toNat = 255 ↔ _
  omega
theorem starts_eq (s : ByteArray) (h : 1 < s.size) : starts s = (((s[0].toNat : Int) == 255) && ((s[1].toNat : Int) == 255)) := by
  unfold starts
  rw [two_bytes s h, ← byte_eq, ← byte_eq]
  simp only [List.cons_beq_cons, List.nil_beq_eq, Bool.and_true, List.isEmpty_nil]

/- What the library's HasPrefix and TrimPrefix answer of twenty bytes and the mark. -/
theorem lite_any (s : ByteArray) (h : s.size = 20) (w : World) :
    Calls Try.prog 99 #[.string s, .string ⟨#[255, 255]⟩] w fun e w' => e = .returned (.bool (starts s)) ∧ w' = w := by
  unfold starts
  go_enter Try.func99, Try.ntmps99
  go_wp2
  go_ret
  exact ⟨rfl, rfl⟩
theorem pre_any (s : ByteArray) (h : s.size = 20) (w : World) :
    Calls Try.prog 88 #[.string s, .string ⟨#[255, 255]⟩] w fun e w' => e = .returned (.bool (starts s)) ∧ w' = w := by
  have P1 := Lib.hid (fun w => lite_any s h w)
  go_enter Try.func88, Try.ntmps88
  go_wp2_with fail
  refine (P1.out _).mono ?_
  rintro e w' ⟨rfl, rfl⟩
  go_wp2
  go_ret
  exact ⟨rfl, rfl⟩
theorem ltrim_any (s : ByteArray) (h : isA s = true) (w : World) :
    Calls Try.prog 89 #[.string s, .string ⟨#[255, 255]⟩] w fun e w' => e = .returned (.string (s.extract 2 s.size)) ∧ w' = w := by
  have hz := isA_size h
  have P1 := Lib.hid (fun w => lite_any s hz w)
  rw [← isA_yes hz, h] at P1
  have h2 : (2 : Int) ≤ (s.size : Int) := by omega
  clear h hz
  go_enter Try.func89, Try.ntmps89
  go_wp2_with fail
  refine (P1.out _).mono ?_
  rintro e w' ⟨rfl, rfl⟩
  go_wp2
  go_ret
  exact ⟨rfl, rfl⟩
theorem trim_any (s : ByteArray) (h : isA s = true) (w : World) :
    Calls Try.prog 69 #[.string s, .string ⟨#[255, 255]⟩] w fun e w' => e = .returned (.string (s.extract 2 s.size)) ∧ w' = w := by
  have P1 := Lib.hid (fun w => ltrim_any s h w)
  clear h
  go_enter Try.func69, Try.ntmps69
  go_wp2_with fail
  refine (P1.out _).mono ?_
  rintro e w' ⟨rfl, rfl⟩
  go_wp2
  go_ret
  exact ⟨rfl, rfl⟩

/- The program. -/
theorem is_any (s : ByteArray) (w : World) :
    Calls Try.prog 68 #[.string s] w fun e w' => e = .returned (.bool (isA s)) ∧ w' = w := by
  by_cases h : s.size = 20
  · have P1 := Lib.hid (fun w => pre_any s h w)
    rw [isA_yes h]
    generalize starts s = b at *
    go_enter Try.func68, Try.ntmps68
    go_wp2_with fail
    refine (P1.out _).mono ?_
    rintro e w' ⟨rfl, rfl⟩
    go_wp2
    go_ret
    exact ⟨rfl, rfl⟩
  · rw [isA_no h]
    go_enter Try.func68, Try.ntmps68
    go_wp2
    go_ret
    exact ⟨rfl, rfl⟩
theorem get_any (s : ByteArray) (w : World) :
    Calls Try.prog 43 #[.string s] w fun e w' => e = .returned (.tuple #[.string (getA s), .bool (isA s)]) ∧ w' = w := by
  have P1 := Lib.hid (fun w => is_any s w)
  cases h : isA s
  · have e : getA s = ByteArray.empty := by unfold getA; rw [h]; rfl
    rw [e]
    rw [h] at P1
    clear h e
    go_enter Try.func43, Try.ntmps43
    go_wp2_with fail
    refine (P1.out _).mono ?_
    rintro e w' ⟨rfl, rfl⟩
    go_wp2
    go_ret2
    exact ⟨rfl, rfl⟩
  · have e : getA s = s.extract 2 s.size := by unfold getA; rw [h]; rfl
    have P2 := Lib.hid (fun w => trim_any s h w)
    rw [e]
    rw [h] at P1
    clear h e
    generalize s.extract 2 s.size = t at *
    go_enter Try.func43, Try.ntmps43
    go_wp2_with fail
    refine (P1.out _).mono ?_
    rintro e w' ⟨rfl, rfl⟩
    go_wp2_with fail
    refine (P2.out _).mono ?_
    rintro e w' ⟨rfl, rfl⟩
    go_wp2
    go_ret2
    exact ⟨rfl, rfl⟩
theorem put_any (s : ByteArray) (w : World) :
    Calls Try.prog 62 #[.string s] w fun e w' => e = .returned (.tuple #[.string (putA s), .bool (putO s)]) ∧ w' = w := by
  by_cases h : s.size = 18
  · have e : putA s = mk2 ++ s := by unfold putA; rw [if_pos h]
    have q : putO s = true := decide_eq_true h
    rw [e, q]
    unfold mk2
    clear e q
    go_enter Try.func62, Try.ntmps62
    go_wp2
    go_ret2
    exact ⟨rfl, rfl⟩
  · have e : putA s = ByteArray.empty := by unfold putA; rw [if_neg h]
    have q : putO s = false := decide_eq_false h
    rw [e, q]
    clear e q
    go_enter Try.func62, Try.ntmps62
    go_wp2
    go_ret2
    exact ⟨rfl, rfl⟩

/- The document's own. -/
theorem ris_any (s : ByteArray) (w : World) :
    Calls Try.prog 21 #[.string s] w fun e w' => e = .returned (.bool (isA s)) ∧ w' = w := by
  by_cases h : s.size = 20
  · have e := starts_eq s (by omega)
    rw [isA_yes h, e]
    have h1 : (1 : Int) < (s.size : Int) := by omega
    clear e
    generalize hq : ((s[0].toNat : Int) == 255) = q at *
    cases q
    all_goals
      go_enter Try.func21, Try.ntmps21
      go_wp2
      go_ret
      exact ⟨rfl, rfl⟩
  · rw [isA_no h]
    go_enter Try.func21, Try.ntmps21
    go_wp2
    go_ret
    exact ⟨rfl, rfl⟩
theorem rget_any (s : ByteArray) (w : World) :
    Calls Try.prog 22 #[.string s] w fun e w' => e = .returned (.tuple #[.string (getA s), .bool (isA s)]) ∧ w' = w := by
  have P1 := Lib.hid (fun w => ris_any s w)
  cases h : isA s
  · have e : getA s = ByteArray.empty := by unfold getA; rw [h]; rfl
    rw [e]
    rw [h] at P1
    clear h e
    go_enter Try.func22, Try.ntmps22
    go_wp2_with fail
    refine (P1.out _).mono ?_
    rintro e w' ⟨rfl, rfl⟩
    go_wp2
    go_ret2
    exact ⟨rfl, rfl⟩
  · have e : getA s = s.extract 2 s.size := by unfold getA; rw [h]; rfl
    have h2 : (2 : Int) ≤ (s.size : Int) := by have := isA_size h; omega
    rw [e]
    rw [h] at P1
    clear h e
    go_enter Try.func22, Try.ntmps22
    go_wp2_with fail
    refine (P1.out _).mono ?_
    rintro e w' ⟨rfl, rfl⟩
    go_wp2
    go_ret2
    exact ⟨rfl, rfl⟩
theorem rput_any (s : ByteArray) (w : World) :
    Calls Try.prog 38 #[.string s] w fun e w' => e = .returned (.tuple #[.string (putA s), .bool (putO s)]) ∧ w' = w := by
  by_cases h : s.size = 18
  · have e : putA s = mk2 ++ s := by unfold putA; rw [if_pos h]
    have q : putO s = true := decide_eq_true h
    rw [e, q]
    unfold mk2
    clear e q
    go_enter Try.func38, Try.ntmps38
    go_wp2
    go_ret2
    exact ⟨rfl, rfl⟩
  · have e : putA s = ByteArray.empty := by unfold putA; rw [if_neg h]
    have q : putO s = false := decide_eq_false h
    rw [e, q]
    clear e q
    go_enter Try.func38, Try.ntmps38
    go_wp2
    go_ret2
    exact ⟨rfl, rfl⟩

/- There and back. -/
theorem get_no {s : ByteArray} (h : isA s = false) : getA s = ByteArray.empty := by unfold getA; rw [h]; rfl
theorem put_no {s : ByteArray} (h : s.size ≠ 18) : putO s = false ∧ putA s = ByteArray.empty := ⟨decide_eq_false h, by unfold putA; rw [if_neg h]⟩
theorem put_back {s : ByteArray} (h : s.size = 18) : putO s = true ∧ isA (putA s) = true ∧ getA (putA s) = s := by
  have e : putA s = mk2 ++ s := by unfold putA; rw [if_pos h]
  have hm : mk2.size = 2 := rfl
  have hz : (mk2 ++ s).size = 20 := by rw [ByteArray.size_append, hm, h]
  have hx : (mk2 ++ s).extract 0 2 = mk2 := ByteArray.extract_append_eq_left rfl
  have hs : isA (mk2 ++ s) = true := by
    rw [isA_yes hz]
    unfold starts
    rw [hx, ByteArray.toList_eq]
    rfl
  refine ⟨decide_eq_true h, by rw [e]; exact hs, ?_⟩
  rw [e]
  unfold getA
  rw [if_pos hs]
  exact ByteArray.extract_append_eq_right rfl (by rw [ByteArray.size_append])
theorem get_back {s : ByteArray} (h : isA s = true) : putO (getA s) = true ∧ putA (getA s) = s := by
  have hz := isA_size h
  have e : getA s = s.extract 2 s.size := by unfold getA; rw [if_pos h]
  have h18 : (getA s).size = 18 := by rw [e, ByteArray.size_extract]; omega
  refine ⟨decide_eq_true h18, ?_⟩
  have h2 : s.extract 0 2 = mk2 := by
    have := h
    rw [isA_yes hz] at this
    unfold starts at this
    have h3 := eq_of_beq this
    rw [ByteArray.toList_eq] at h3
    apply ByteArray.ext
    exact Array.ext' h3
  unfold putA
  rw [if_pos h18, e, ← h2, ByteArray.extract_append_extract]
  have : min 0 2 = 0 := rfl
  have : max 2 s.size = s.size := by omega
  simp [this]
theorem bytes_true (a : ByteArray) : (a.toList == a.toList) = true := by simp

/- The document's example holds. -/
def ex18 : ByteArray := ⟨#[0, 2, 97, 98, 99, 100, 101, 102, 103, 104, 105, 106, 107, 108, 109, 110, 111, 112]⟩
def ex20 : ByteArray := ⟨#[255, 255, 0, 2, 97, 98, 99, 100, 101, 102, 103, 104, 105, 106, 107, 108, 109, 110, 111, 112]⟩
def ex19 : ByteArray := ⟨#[255, 255, 0, 2, 97, 98, 99, 100, 101, 102, 103, 104, 105, 106, 107, 108, 109, 110, 111]⟩
end Go.Proofs.Ytfaobpmbiocafaa.Au
