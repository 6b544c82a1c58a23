/-
  Whether a prefix is one in an encoding, whether a message may be, a prefix's bytes and the prefix of bytes: the program's answers and the document's. Conditions: the message's lists stand in the world, and aren't long; the variable has what it is laid with.
  TLVs whose fields stand alone: which messages may be, their bytes, and which message a TLV says: definitions on values alone, and facts on them. No conditions.
  The messages of Babel's TLVs, of a body and of a datagram, and what is known behind them: definitions on values alone, and facts on them. No conditions.
  Babel's messages in as few bytes as what is known lets: their TLVs, and what these tell where it is known: definitions on values alone, and facts on them. No conditions.
  How many bytes two texts have alike: they are, and one more isn't. No conditions.
  Babel's messages in as few bytes as what is known lets, whole: their TLVs, the bytes, what is known behind them; taken where it is known they tell the message. No conditions.
  The library's contracts laid at this program, in plain words: each laying is a table of numbers and one theorem; each contract one application. No condition beyond those that each states.
-/
import Derived.Test.YtfegdblaohhdoaaGreatDoorB02
import Derived.Test.YtfegdblaohhdoaaGreatDoorB03
import Derived.Test.YtfegdblaohhdoaaGreatDoorB04
import Derived.Shelf.Strings.Builder1
import Derived.Shelf.Strings.Builder2
import Derived.Test.YtfegdblaohhdoaaGreatDoorProg
namespace Go.Proofs.YtfegdblaohhdoaaGreatDoor.J2
open Go.ChangeShapes Go.WideShapes Go.ChangeAt Go.RowKit
open Go.Proofs.YtfegdblaohhdoaaGreatDoor.Ms
open Go.Proofs.YtfegdblaohhdoaaGreatDoor.Box
open Go.Proofs.YtfegdblaohhdoaaGreatDoor.S1
open Go.Proofs.YtfegdblaohhdoaaGreatDoor.Lk
open Go.Proofs.YtfegdblaohhdoaaGreatDoor.Nu (text_eq)
open Go.Proofs.YtfegdblaohhdoaaGreatDoor.J1
open Go.Proofs.YtfegdblaohhdoaaGreatDoor.An
open Go.Proofs.YtfegdblaohhdoaaGreatDoor.Tc
open Go.Proofs.YtfegdblaohhdoaaGreatDoor.Oct (fitsB)
open Go.Proofs.YtfegdblaohhdoaaGreatDoor.Bits (keepL keepL_length)
open Go.Proofs.YtfegdblaohhdoaaGreatDoor.Pre (leastN cutL fillL fillL_length rightZ)
open Go.Proofs.YtfegdblaohhdoaaGreatDoor.Hs
open Go.Proofs.YtfegdblaohhdoaaGreatDoor.Or (st_yes)
set_option linter.unusedVariables false
set_option maxRecDepth 100000
set_option maxRecDepth 100000
theorem bool_eq {a b : Bool} (h : a = b) : Ending.returned (.bool a) = .returned (.bool b) := by rw [h]
theorem int_eq {a b : Int} (h : a = b) : Ending.returned (.int .i64 a) = .returned (.int .i64 b) := by rw [h]
theorem str_eq {a b : ByteArray} (h : a = b) : Ending.returned (.string a) = .returned (.string b) := by rw [h]
theorem pair_eq {s t : ByteArray} {b c : Bool} (h : s = t) (k : b = c) : Ending.returned (.tuple #[.string s, .bool b]) = .returned (.tuple #[.string t, .bool c]) := by rw [h, k]
theorem len_is (ae p : Int) : lenB ae p = (decide (0 ≤ ae) && (decide (ae ≤ 3) && (decide (minA ae ≤ p) && decide (p ≤ maxA ae)))) := rfl
theorem size_eq (a : ByteArray) (k : Nat) : ((a.size : Int) == (k : Int)) = decide (a.size = k) := by rw [Bool.eq_iff_iff]; simp; omega
theorem nil_eq (a : ByteArray) : (a.toList == ([] : List UInt8)) = decide (a.size = 0) := by
  rw [Bool.eq_iff_iff, beq_iff_eq, decide_eq_true_eq, ByteArray.toList_eq, ← size_list, List.length_eq_zero_iff]
theorem nil_em (a : ByteArray) : a.toList.isEmpty = decide (a.size = 0) := by rw [← nil_eq]; cases a.toList <;> rfl
theorem ae_any (n : Int) (w : World) : Calls Tryz.prog 128 #[.int .i64 n] w fun e w' => e = .returned (.bool (decide (0 ≤ n ∧ n ≤ 3))) ∧ w = w' := by
  by_cases h0 : 0 ≤ n
  rotate_left
  · rw [decide_eq_false (fun h => h0 h.1)]
    go_enter Tryz.func128, Tryz.ntmps128
    go_wp2
    go_ret
    exact ⟨rfl, rfl⟩
  by_cases h1 : n ≤ 3
  rotate_left
  · rw [decide_eq_false (fun h => h1 h.2)]
    go_enter Tryz.func128, Tryz.ntmps128
    go_wp2
    go_ret
    exact ⟨bool_eq (decide_eq_false (by omega)), rfl⟩
  rw [decide_eq_true ⟨h0, h1⟩]
  go_enter Tryz.func128, Tryz.ntmps128
  go_wp2
  go_ret
  exact ⟨bool_eq (decide_eq_true (by omega)), rfl⟩
set_option maxHeartbeats 1600000 in
theorem length_any (ae p : Int) (w : World) (ht : Tab w) : Calls Tryz.prog 96 #[.int .i64 ae, .int .i64 p] w fun e w' => e = .returned (.bool (lenB ae p)) ∧ w = w' := by
  have PA := Lib.hid (fun V => ae_any ae V)
  by_cases hi : 0 ≤ ae ∧ ae ≤ 3
  rotate_left
  · have HK := Lib.hid (show lenB ae p = false from by
      cases h : lenB ae p
      · rfl
      · exact absurd ⟨(len_range h).1, (len_range h).2.1⟩ hi)
    rw [decide_eq_false hi] at PA
    clear ht hi
    go_enter Tryz.func96, Tryz.ntmps96
    go_wp2_with fail
    refine (PA.out _).mono ?_
    rintro e w' ⟨rfl, rfl⟩
    go_wp2
    go_ret
    exact ⟨bool_eq HK.out.symm, rfl⟩
  rw [decide_eq_true hi] at PA
  obtain ⟨s0, s1, s2, s3, s4, s5, s6, s7⟩ := ht
  rcases (show ae = 0 ∨ ae = 1 ∨ ae = 2 ∨ ae = 3 by omega) with rfl | rfl | rfl | rfl
  · by_cases h0 : 0 ≤ p
    rotate_left
    · have HK := Lib.hid (show lenB 0 p = false from by rw [len_is, decide_eq_false (show ¬ minA 0 ≤ p from h0)]; rfl)
      clear hi
      go_enter Tryz.func96, Tryz.ntmps96
      go_wp2_with fail
      refine (PA.out _).mono ?_
      rintro e w' ⟨rfl, rfl⟩
      go_wp2
      go_ret
      exact ⟨bool_eq HK.out.symm, rfl⟩
    by_cases h1 : p ≤ 0
    rotate_left
    · have HK := Lib.hid (show lenB 0 p = false from by rw [len_is, decide_eq_false (show ¬ p ≤ maxA 0 from h1), Bool.and_false, Bool.and_false, Bool.and_false])
      have hq : decide (p ≤ 0) = false := decide_eq_false h1
      clear hi
      go_enter Tryz.func96, Tryz.ntmps96
      go_wp2_with fail
      refine (PA.out _).mono ?_
      rintro e w' ⟨rfl, rfl⟩
      go_wp2
      go_ret
      exact ⟨bool_eq HK.out.symm, rfl⟩
    have HK := Lib.hid (show lenB 0 p = true from by rw [len_is, decide_eq_true (show minA 0 ≤ p from h0), decide_eq_true (show p ≤ maxA 0 from h1)]; rfl)
    have hq : decide (p ≤ 0) = true := decide_eq_true h1
    clear hi
    go_enter Tryz.func96, Tryz.ntmps96
    go_wp2_with fail
    refine (PA.out _).mono ?_
    rintro e w' ⟨rfl, rfl⟩
    go_wp2
    go_ret
    exact ⟨bool_eq HK.out.symm, rfl⟩
  · by_cases h0 : 0 ≤ p
    rotate_left
    · have HK := Lib.hid (show lenB 1 p = false from by rw [len_is, decide_eq_false (show ¬ minA 1 ≤ p from h0)]; rfl)
      clear hi
      go_enter Tryz.func96, Tryz.ntmps96
      go_wp2_with fail
      refine (PA.out _).mono ?_
      rintro e w' ⟨rfl, rfl⟩
      go_wp2
      go_ret
      exact ⟨bool_eq HK.out.symm, rfl⟩
    by_cases h1 : p ≤ 32
    rotate_left
    · have HK := Lib.hid (show lenB 1 p = false from by rw [len_is, decide_eq_false (show ¬ p ≤ maxA 1 from h1), Bool.and_false, Bool.and_false, Bool.and_false])
      have hq : decide (p ≤ 32) = false := decide_eq_false h1
      clear hi
      go_enter Tryz.func96, Tryz.ntmps96
      go_wp2_with fail
      refine (PA.out _).mono ?_
      rintro e w' ⟨rfl, rfl⟩
      go_wp2
      go_ret
      exact ⟨bool_eq HK.out.symm, rfl⟩
    have HK := Lib.hid (show lenB 1 p = true from by rw [len_is, decide_eq_true (show minA 1 ≤ p from h0), decide_eq_true (show p ≤ maxA 1 from h1)]; rfl)
    have hq : decide (p ≤ 32) = true := decide_eq_true h1
    clear hi
    go_enter Tryz.func96, Tryz.ntmps96
    go_wp2_with fail
    refine (PA.out _).mono ?_
    rintro e w' ⟨rfl, rfl⟩
    go_wp2
    go_ret
    exact ⟨bool_eq HK.out.symm, rfl⟩
  · by_cases h0 : 0 ≤ p
    rotate_left
    · have HK := Lib.hid (show lenB 2 p = false from by rw [len_is, decide_eq_false (show ¬ minA 2 ≤ p from h0)]; rfl)
      clear hi
      go_enter Tryz.func96, Tryz.ntmps96
      go_wp2_with fail
      refine (PA.out _).mono ?_
      rintro e w' ⟨rfl, rfl⟩
      go_wp2
      go_ret
      exact ⟨bool_eq HK.out.symm, rfl⟩
    by_cases h1 : p ≤ 128
    rotate_left
    · have HK := Lib.hid (show lenB 2 p = false from by rw [len_is, decide_eq_false (show ¬ p ≤ maxA 2 from h1), Bool.and_false, Bool.and_false, Bool.and_false])
      have hq : decide (p ≤ 128) = false := decide_eq_false h1
      clear hi
      go_enter Tryz.func96, Tryz.ntmps96
      go_wp2_with fail
      refine (PA.out _).mono ?_
      rintro e w' ⟨rfl, rfl⟩
      go_wp2
      go_ret
      exact ⟨bool_eq HK.out.symm, rfl⟩
    have HK := Lib.hid (show lenB 2 p = true from by rw [len_is, decide_eq_true (show minA 2 ≤ p from h0), decide_eq_true (show p ≤ maxA 2 from h1)]; rfl)
    have hq : decide (p ≤ 128) = true := decide_eq_true h1
    clear hi
    go_enter Tryz.func96, Tryz.ntmps96
    go_wp2_with fail
    refine (PA.out _).mono ?_
    rintro e w' ⟨rfl, rfl⟩
    go_wp2
    go_ret
    exact ⟨bool_eq HK.out.symm, rfl⟩
  · by_cases h0 : 64 ≤ p
    rotate_left
    · have HK := Lib.hid (show lenB 3 p = false from by rw [len_is, decide_eq_false (show ¬ minA 3 ≤ p from h0)]; rfl)
      clear hi
      go_enter Tryz.func96, Tryz.ntmps96
      go_wp2_with fail
      refine (PA.out _).mono ?_
      rintro e w' ⟨rfl, rfl⟩
      go_wp2
      go_ret
      exact ⟨bool_eq HK.out.symm, rfl⟩
    by_cases h1 : p ≤ 128
    rotate_left
    · have HK := Lib.hid (show lenB 3 p = false from by rw [len_is, decide_eq_false (show ¬ p ≤ maxA 3 from h1), Bool.and_false, Bool.and_false, Bool.and_false])
      have hq : decide (p ≤ 128) = false := decide_eq_false h1
      clear hi
      go_enter Tryz.func96, Tryz.ntmps96
      go_wp2_with fail
      refine (PA.out _).mono ?_
      rintro e w' ⟨rfl, rfl⟩
      go_wp2
      go_ret
      exact ⟨bool_eq HK.out.symm, rfl⟩
    have HK := Lib.hid (show lenB 3 p = true from by rw [len_is, decide_eq_true (show minA 3 ≤ p from h0), decide_eq_true (show p ≤ maxA 3 from h1)]; rfl)
    have hq : decide (p ≤ 128) = true := decide_eq_true h1
    clear hi
    go_enter Tryz.func96, Tryz.ntmps96
    go_wp2_with fail
    refine (PA.out _).mono ?_
    rintro e w' ⟨rfl, rfl⟩
    go_wp2
    go_ret
    exact ⟨bool_eq HK.out.symm, rfl⟩
def famN (a : ByteArray) : Int := if a.size = 4 then 0 else if a.size = 16 then 1 else -1
theorem family_any (s : ByteArray) (w : World) : Calls Tryz.prog 98 #[.string s] w fun e w' => e = .returned (.int .i64 (famN s)) ∧ w = w' := by
  by_cases h4 : s.size = 4
  · have HK := Lib.hid (show famN s = 0 by unfold famN; rw [if_pos h4])
    have e0 : ((s.size : Int) == 4) = true := by rw [beq_iff_eq]; omega
    clear h4
    go_enter Tryz.func98, Tryz.ntmps98
    go_wp2
    go_ret
    exact ⟨int_eq HK.out.symm, rfl⟩
  have e0 : ((s.size : Int) == 4) = false := by rw [beq_eq_false_iff_ne]; omega
  by_cases h6 : s.size = 16
  · have HK := Lib.hid (show famN s = 1 by unfold famN; rw [if_neg h4, if_pos h6])
    have e1 : ((s.size : Int) == 16) = true := by rw [beq_iff_eq]; omega
    clear h4 h6
    go_enter Tryz.func98, Tryz.ntmps98
    go_wp2
    go_ret
    exact ⟨int_eq HK.out.symm, rfl⟩
  have e1 : ((s.size : Int) == 16) = false := by rw [beq_eq_false_iff_ne]; omega
  have HK := Lib.hid (show famN s = -1 by unfold famN; rw [if_neg h4, if_neg h6])
  clear h4 h6
  go_enter Tryz.func98, Tryz.ntmps98
  go_wp2
  go_ret
  exact ⟨int_eq HK.out.symm, rfl⟩
theorem fam_0 (a : ByteArray) : (famN a == 0) = decide (a.size = 4) := by
  unfold famN
  by_cases h4 : a.size = 4
  · rw [if_pos h4, decide_eq_true h4]; rfl
  · rw [if_neg h4, decide_eq_false h4]
    split <;> rfl
theorem fam_1 (a : ByteArray) : (famN a == 1) = decide (a.size = 16) := by
  unfold famN
  by_cases h4 : a.size = 4
  · rw [if_pos h4, decide_eq_false (by omega)]; rfl
  · rw [if_neg h4]
    by_cases h6 : a.size = 16
    · rw [if_pos h6, decide_eq_true h6]; rfl
    · rw [if_neg h6, decide_eq_false h6]; rfl
theorem address_any (ae : Int) (a : ByteArray) (w : World) : Calls Tryz.prog 95 #[.int .i64 ae, .string a] w fun e w' => e = .returned (.bool (adrB ae a)) ∧ w = w' := by
  by_cases h0 : ae = 0
  · subst h0
    have HK := Lib.hid (show adrB 0 a = decide (a.size = 0) from rfl)
    have he := nil_eq a
    have he2 := nil_em a
    generalize decide (a.size = 0) = z at *
    generalize adrB 0 a = y at *
    go_enter Tryz.func95, Tryz.ntmps95
    go_wp2
    go_ret
    exact ⟨bool_eq HK.out.symm, rfl⟩
  by_cases h1 : ae = 1
  · subst h1
    have HK := Lib.hid (show adrB 1 a = decide (a.size = 4) from rfl)
    have PF := Lib.hid (fun V => family_any a V)
    have he := fam_0 a
    generalize decide (a.size = 4) = z at *
    generalize adrB 1 a = y at *
    generalize famN a = f at *
    go_enter Tryz.func95, Tryz.ntmps95
    go_wp2_with fail
    refine (PF.out _).mono ?_
    rintro e w' ⟨rfl, rfl⟩
    go_wp2
    go_ret
    exact ⟨bool_eq HK.out.symm, rfl⟩
  by_cases h2 : ae = 2
  · subst h2
    have HK := Lib.hid (show adrB 2 a = decide (a.size = 16) from rfl)
    have PF := Lib.hid (fun V => family_any a V)
    have he := fam_1 a
    generalize decide (a.size = 16) = z at *
    generalize adrB 2 a = y at *
    generalize famN a = f at *
    go_enter Tryz.func95, Tryz.ntmps95
    go_wp2_with fail
    refine (PF.out _).mono ?_
    rintro e w' ⟨rfl, rfl⟩
    go_wp2
    go_ret
    exact ⟨bool_eq HK.out.symm, rfl⟩
  by_cases h3 : ae = 3
  · subst h3
    have HK := Lib.hid (show adrB 3 a = link a from rfl)
    have PF := Lib.hid (fun V => link_any a V)
    generalize link a = z at *
    generalize adrB 3 a = y at *
    go_enter Tryz.func95, Tryz.ntmps95
    go_wp2_with fail
    refine (PF.out _).mono ?_
    rintro e w' ⟨rfl, rfl⟩
    go_wp2
    go_ret
    exact ⟨bool_eq HK.out.symm, rfl⟩
  have HK := Lib.hid (show adrB ae a = false by unfold adrB; rw [if_neg h0, if_neg h1, if_neg h2, if_neg h3])
  have e0 : (ae == 0) = false := by simpa using h0
  have e1 : (ae == 1) = false := by simpa using h1
  have e2 : (ae == 2) = false := by simpa using h2
  have e3 : (ae == 3) = false := by simpa using h3
  go_enter Tryz.func95, Tryz.ntmps95
  go_wp2
  go_ret
  exact ⟨bool_eq HK.out.symm, rfl⟩
set_option maxHeartbeats 1600000 in
theorem in_any (ae : Int) (a : ByteArray) (p : Int) (w : World) (ha : a.size ≤ maxLen) (ht : Tab w) : Calls Tryz.prog 58 #[.int .i64 ae, .string a, .int .i64 p] w fun e w' => e = .returned (.bool (inB ae a p)) ∧ Below w.heap.size w w' := by
  have P1 := Lib.hid (fun V => address_any ae a V)
  have P2 := Lib.hid (length_any ae p w ht)
  have P3 := Lib.hid (fun V => Pre.right_any a p V ha)
  have HK := Lib.hid (show inB ae a p = (adrB ae a && (lenB ae p && (decide (ae = 0) || rightZ a p))) from rfl)
  clear ht ha
  generalize inB ae a p = y at *
  generalize adrB ae a = x1 at *
  generalize lenB ae p = x2 at *
  generalize rightZ a p = x3 at *
  cases x1
  · go_enter Tryz.func58, Tryz.ntmps58
    go_wp2_with fail
    refine (P1.out _).mono ?_
    rintro r w' ⟨rfl, rfl⟩
    go_wp2
    go_ret
    exact ⟨bool_eq HK.out.symm, Below.refl _ _⟩
  cases x2
  · go_enter Tryz.func58, Tryz.ntmps58
    go_wp2_with fail
    refine (P1.out _).mono ?_
    rintro r w' ⟨rfl, rfl⟩
    go_wp2_with fail
    refine (P2.out).mono ?_
    rintro r w' ⟨rfl, rfl⟩
    go_wp2
    go_ret
    exact ⟨bool_eq HK.out.symm, Below.refl _ _⟩
  by_cases h0 : ae = 0
  · subst h0
    go_enter Tryz.func58, Tryz.ntmps58
    go_wp2_with fail
    refine (P1.out _).mono ?_
    rintro r w' ⟨rfl, rfl⟩
    go_wp2_with fail
    refine (P2.out).mono ?_
    rintro r w' ⟨rfl, rfl⟩
    go_wp2
    go_ret
    exact ⟨bool_eq HK.out.symm, Below.refl _ _⟩
  have e0 : (ae == 0) = false := by simpa using h0
  rw [decide_eq_false h0] at HK
  clear h0
  go_enter Tryz.func58, Tryz.ntmps58
  go_wp2_with fail
  refine (P1.out _).mono ?_
  rintro r w' ⟨rfl, rfl⟩
  go_wp2_with fail
  refine (P2.out).mono ?_
  rintro r w' ⟨rfl, rfl⟩
  go_wp2_with fail
  refine (P3.out _).mono ?_
  rintro r w' ⟨rfl, hb⟩
  go_wp2
  go_ret
  exact ⟨bool_eq HK.out.symm, hb⟩
theorem count_any (ae p : Int) (w : World) (h : lenB ae p = true) : Calls Tryz.prog 138 #[.int .i64 ae, .int .i64 p] w fun e w' => e = .returned (.int .i64 (countN ae p : Nat)) ∧ w = w' := by
  have hr := len_range h
  have hc := count_le h
  have P1 := Lib.hid (fun V => Pre.least_any p V (by omega))
  by_cases h3 : ae = 3
  · subst h3
    have HK0 : ((countN 3 p : Nat) : Int) = (leastN p : Int) - 8 := by have : baseN 3 = 8 := rfl; omega
    have hw : wrap64 ((leastN p : Int) - 8) = (leastN p : Int) - 8 := IntWalk.wrap64_in _ ⟨by omega, by have := hc.1; have : baseN 3 = 8 := rfl; omega⟩
    have HK := Lib.hid (hw.trans HK0.symm)
    clear hw HK0
    generalize countN 3 p = c at *
    generalize leastN p = n at *
    clear hr hc h
    go_enter Tryz.func138, Tryz.ntmps138
    go_wp2_with fail
    refine (P1.out _).mono ?_
    rintro r w' ⟨rfl, rfl⟩
    go_wp2
    go_ret
    exact ⟨int_eq HK.out, rfl⟩
  have HK := Lib.hid (show ((countN ae p : Nat) : Int) = (leastN p : Int) from by
    have : baseN ae = 0 := by unfold baseN; rw [if_neg h3]
    omega)
  have e3 : (ae == 3) = false := by simpa using h3
  generalize countN ae p = c at *
  generalize leastN p = n at *
  clear hr hc h
  go_enter Tryz.func138, Tryz.ntmps138
  go_wp2_with fail
  refine (P1.out _).mono ?_
  rintro r w' ⟨rfl, rfl⟩
  go_wp2
  go_ret
  exact ⟨int_eq HK.out.symm, rfl⟩
theorem adr_size {ae : Int} {a : ByteArray} {p : Int} (h : inB ae a p = true) : a.size ≤ 16 := by
  rcases (in_cases h).2 with ⟨_, h0⟩ | ⟨⟨_, h0⟩ | ⟨_, h0⟩ | ⟨_, h0⟩, _⟩
  · omega
  · omega
  · omega
  · have := link_size h0; omega
theorem cutL_len {ae : Int} {a : ByteArray} {p : Int} (h : inB ae a p = true) : (cutL a.data.toList p).length = leastN p := by
  have h1 := cut_size h
  have h2 := (count_le (in_cases h).1).2
  unfold cutP at h1
  rw [mk_size, List.length_drop] at h1
  rcases (in_cases h).2 with ⟨rfl, h0⟩ | ⟨hc, h8, _⟩
  · have : baseN 0 = 0 := rfl
    omega
  · unfold cutL
    have := (len_range (in_cases h).1).2.2.1
    rw [List.length_take, keepL_length, size_list, Nat.min_eq_left (by unfold leastN; omega)]
set_option maxHeartbeats 1600000 in
theorem cut_any (ae : Int) (a : ByteArray) (p : Int) (w : World) (h : inB ae a p = true) : Calls Tryz.prog 118 #[.int .i64 ae, .string a, .int .i64 p] w fun e w' => e = .returned (.string (cutP ae a p)) ∧ Below w.heap.size w w' := by
  have hl := (in_cases h).1
  have hr := len_range hl
  have hc := count_le hl
  have hz := cutL_len h
  have ha := adr_size h
  have P1 := Lib.hid (fun V => Pre.cut_any a p V (by omega) (by omega))
  have P2 := Lib.hid (fun V => count_any ae p V hl)
  have hs : (ByteArray.mk (cutL a.data.toList p).toArray).size = leastN p := by rw [mk_size, hz]
  have HK := Lib.hid (show (ByteArray.mk (cutL a.data.toList p).toArray).extract (baseN ae) (leastN p) = cutP ae a p from text_eq (by
    rw [Nu.ext_list]
    show ((cutL a.data.toList p).drop (baseN ae)).take (leastN p - baseN ae) = (cutL a.data.toList p).drop (baseN ae)
    exact List.take_of_length_le (by rw [List.length_drop, hz]; exact Nat.le_refl _)))
  generalize ByteArray.mk (cutL a.data.toList p).toArray = x at *
  generalize cutP ae a p = y at *
  have hsl : ∀ wx, Sem.run Tryz.prog (Instr.slice 9 (Value.string x) (some (Value.int IntKind.i64 ((x.size : Int) - (countN ae p : Int)))) none none) wx = .ok (.string y) wx := fun wx => by
    have := F2.sl_l x ((x.size : Int) - (countN ae p : Int)) (baseN ae) (leastN p) (by omega) (by omega) hs wx
    rw [HK.out] at this
    exact this
  have hln : leastN p ≤ 16 := by unfold leastN; omega
  have hw : wrap64 ((x.size : Int) - (countN ae p : Int)) = (x.size : Int) - (countN ae p : Int) := IntWalk.wrap64_in _ ⟨by omega, by omega⟩
  clear hln
  generalize countN ae p = c at *
  clear hl hr hc hz ha hs h HK
  go_enter Tryz.func118, Tryz.ntmps118
  go_wp2_with fail
  refine (P1.out _).mono ?_
  rintro r w' ⟨rfl, hb⟩
  go_wp2_with fail
  refine (P2.out _).mono ?_
  rintro r w' ⟨rfl, rfl⟩
  go_wp2
  go_ret
  exact ⟨rfl, hb⟩
theorem lay_size {ae : Int} {s : ByteArray} {p : Int} (hl : lenB ae p = true) (hs : s.size = countN ae p) : s.size ≤ 16 := by have := (count_le hl).1; omega
theorem seq_is (m : M) : seqB m = (!decide (m.ae = 0) && (fitsB m.seq 2 && (decide (m.id.size = 8) && (decide (1 ≤ m.hops) && fitsB m.hops 1)))) := rfl
set_option maxHeartbeats 3200000 in
theorem kind_any (m : M) (w : World) : Calls Tryz.prog 61 #[.agg m.cells] w fun e w' => e = .returned (.bool (kindB m)) ∧ Below w.heap.size w w' := by
  have HB := Lib.hid (balloc (Below.refl _ w) (.cells m.cells 29))
  have b0 := Bx.new w m
  by_cases h12 : m.kind = 12
  · have HK := Lib.hid (show kindB m = true by unfold kindB; rw [if_pos h12])
    go_enter Tryz.func61, Tryz.ntmps61
    go_upto_region 1 with fail
    generalize w.alloc (.cells m.cells 29) = V at *
    have c0 := b0.cs.c0
    have c5 := b0.cs.c5
    have c11 := b0.cs.c11
    have c12 := b0.cs.c12
    have c16 := b0.cs.c16
    clear b0
    rw [h12] at c0
    go_wp2
    go_ret
    exact ⟨bool_eq HK.out.symm, HB.out⟩
  by_cases h13 : m.kind = 13
  rotate_left
  · have HK := Lib.hid (show kindB m = false by unfold kindB; rw [if_neg h12, if_neg h13])
    have e12 : (m.kind == 12) = false := by simpa using h12
    have e13 : (m.kind == 13) = false := by simpa using h13
    go_enter Tryz.func61, Tryz.ntmps61
    go_upto_region 1 with fail
    generalize w.alloc (.cells m.cells 29) = V at *
    have c0 := b0.cs.c0
    have c5 := b0.cs.c5
    have c11 := b0.cs.c11
    have c12 := b0.cs.c12
    have c16 := b0.cs.c16
    clear b0
    go_wp2
    go_ret
    exact ⟨bool_eq HK.out.symm, HB.out⟩
  have HK := Lib.hid (show kindB m = (!decide (m.ae = 0) && (fitsB m.seq 2 && (decide (m.id.size = 8) && (decide (1 ≤ m.hops) && fitsB m.hops 1)))) by unfold kindB; rw [if_neg h12, if_pos h13, seq_is])
  have P1 := Lib.hid (fun V => Oct.fits_any m.seq 2 V)
  have P2 := Lib.hid (fun V => Oct.fits_any m.hops 1 V)
  generalize kindB m = y at *
  generalize fitsB m.seq 2 = x1 at *
  generalize fitsB m.hops 1 = x2 at *
  by_cases h0 : m.ae = 0
  · rw [decide_eq_true h0] at HK
    go_enter Tryz.func61, Tryz.ntmps61
    go_upto_region 1 with fail
    generalize w.alloc (.cells m.cells 29) = V at *
    have c0 := b0.cs.c0
    have c5 := b0.cs.c5
    have c11 := b0.cs.c11
    have c12 := b0.cs.c12
    have c16 := b0.cs.c16
    clear b0
    rw [h13] at c0
    rw [h0] at c5
    clear h0 h12 h13
    go_wp2
    go_ret
    exact ⟨bool_eq HK.out.symm, HB.out⟩
  have e0 : (m.ae == 0) = false := by simpa using h0
  have e1 : (m.ae != 0) = true := by rw [bne, e0]; rfl
  rw [decide_eq_false h0] at HK
  cases x1
  · go_enter Tryz.func61, Tryz.ntmps61
    go_upto_region 1 with fail
    generalize w.alloc (.cells m.cells 29) = V at *
    have c0 := b0.cs.c0
    have c5 := b0.cs.c5
    have c11 := b0.cs.c11
    have c12 := b0.cs.c12
    have c16 := b0.cs.c16
    clear b0
    rw [h13] at c0
    clear h0 h12 h13
    go_wp2_with fail
    refine (P1.out _).mono ?_
    rintro r w' ⟨rfl, rfl⟩
    go_wp2
    go_ret
    exact ⟨bool_eq HK.out.symm, HB.out⟩
  have e2 : ((m.id.size : Int) == 8) = decide (m.id.size = 8) := size_eq m.id 8
  by_cases h8 : m.id.size = 8
  rotate_left
  · rw [decide_eq_false h8] at HK e2
    clear h8
    go_enter Tryz.func61, Tryz.ntmps61
    go_upto_region 1 with fail
    generalize w.alloc (.cells m.cells 29) = V at *
    have c0 := b0.cs.c0
    have c5 := b0.cs.c5
    have c11 := b0.cs.c11
    have c12 := b0.cs.c12
    have c16 := b0.cs.c16
    clear b0
    rw [h13] at c0
    clear h0 h12 h13
    go_wp2_with fail
    refine (P1.out _).mono ?_
    rintro r w' ⟨rfl, rfl⟩
    go_wp2
    go_ret
    exact ⟨bool_eq HK.out.symm, HB.out⟩
  rw [decide_eq_true h8] at HK e2
  clear h8
  by_cases h1 : 1 ≤ m.hops
  rotate_left
  · rw [decide_eq_false h1] at HK
    go_enter Tryz.func61, Tryz.ntmps61
    go_upto_region 1 with fail
    generalize w.alloc (.cells m.cells 29) = V at *
    have c0 := b0.cs.c0
    have c5 := b0.cs.c5
    have c11 := b0.cs.c11
    have c12 := b0.cs.c12
    have c16 := b0.cs.c16
    clear b0
    rw [h13] at c0
    clear h0 h12 h13
    go_wp2_with fail
    refine (P1.out _).mono ?_
    rintro r w' ⟨rfl, rfl⟩
    go_wp2
    go_ret
    exact ⟨bool_eq HK.out.symm, HB.out⟩
  rw [decide_eq_true h1] at HK
  go_enter Tryz.func61, Tryz.ntmps61
  go_upto_region 1 with fail
  generalize w.alloc (.cells m.cells 29) = V at *
  have c0 := b0.cs.c0
  have c5 := b0.cs.c5
  have c11 := b0.cs.c11
  have c12 := b0.cs.c12
  have c16 := b0.cs.c16
  clear b0
  rw [h13] at c0
  clear h0 h12 h13
  go_wp2_with fail
  refine (P1.out _).mono ?_
  rintro r w' ⟨rfl, rfl⟩
  go_wp2_with fail
  refine (P2.out _).mono ?_
  rintro r w' ⟨rfl, rfl⟩
  go_wp2
  go_ret
  exact ⟨bool_eq HK.out.symm, HB.out⟩
theorem base_any (ae : Int) (w : World) : Calls Tryz.prog 25 #[.int .i64 ae] w fun e w' => e = .returned (.int .i64 (baseN ae : Nat)) ∧ w = w' := by
  by_cases h3 : ae = 3
  · subst h3
    have HK := Lib.hid (show ((baseN 3 : Nat) : Int) = 8 from rfl)
    go_enter Tryz.func25, Tryz.ntmps25
    go_wp2
    go_ret
    exact ⟨rfl, rfl⟩
  have HK := Lib.hid (show ((baseN ae : Nat) : Int) = 0 by unfold baseN; rw [if_neg h3]; rfl)
  have e3 : (ae == 3) = false := by simpa using h3
  go_enter Tryz.func25, Tryz.ntmps25
  go_wp2
  go_ret
  exact ⟨int_eq HK.out.symm, rfl⟩
set_option maxHeartbeats 1600000 in
theorem great_any (ae p : Int) (w : World) (h0 : 0 ≤ ae) (h3 : ae ≤ 3) (hp : 0 ≤ p) : Calls Tryz.prog 76 #[.int .i64 ae, .int .i64 p] w fun e w' => e = .returned (.bool (!lenB ae p)) ∧ w = w' := by
  rcases (show ae = 0 ∨ ae = 1 ∨ ae = 2 ∨ ae = 3 by omega) with rfl | rfl | rfl | rfl
  · clear h0 h3
    have hl : minA 0 ≤ p := hp
    by_cases hh : p ≤ 0
    rotate_left
    · have HK := Lib.hid (show (!lenB 0 p) = true by rw [len_is, decide_eq_false (show ¬ p ≤ maxA 0 from hh), Bool.and_false, Bool.and_false, Bool.and_false]; rfl)
      generalize (!lenB 0 p) = y at *
      have hq : (p == 0) = false := by simpa using (show ¬ p = 0 by omega)
      have hq2 : (p != 0) = true := by rw [bne, hq]; rfl
      go_enter Tryz.func76, Tryz.ntmps76
      go_wp2
      go_ret
      exact ⟨bool_eq HK.out.symm, rfl⟩
    have HK := Lib.hid (show (!lenB 0 p) = false by rw [len_is, decide_eq_true (show minA 0 ≤ p from hl), decide_eq_true (show p ≤ maxA 0 from hh)]; rfl)
    generalize (!lenB 0 p) = y at *
    obtain rfl : p = 0 := by omega
    go_enter Tryz.func76, Tryz.ntmps76
    go_wp2
    go_ret
    exact ⟨bool_eq HK.out.symm, rfl⟩
  · clear h0 h3
    have hl : minA 1 ≤ p := hp
    by_cases hh : p ≤ 32
    rotate_left
    · have HK := Lib.hid (show (!lenB 1 p) = true by rw [len_is, decide_eq_false (show ¬ p ≤ maxA 1 from hh), Bool.and_false, Bool.and_false, Bool.and_false]; rfl)
      generalize (!lenB 1 p) = y at *
      have hh2 : 32 < p := by omega
      go_enter Tryz.func76, Tryz.ntmps76
      go_wp2
      go_ret
      exact ⟨bool_eq HK.out.symm, rfl⟩
    have HK := Lib.hid (show (!lenB 1 p) = false by rw [len_is, decide_eq_true (show minA 1 ≤ p from hl), decide_eq_true (show p ≤ maxA 1 from hh)]; rfl)
    generalize (!lenB 1 p) = y at *
    have hh2 : ¬ 32 < p := by omega
    go_enter Tryz.func76, Tryz.ntmps76
    go_wp2
    go_ret
    exact ⟨bool_eq HK.out.symm, rfl⟩
  · clear h0 h3
    have hl : minA 2 ≤ p := hp
    by_cases hh : p ≤ 128
    rotate_left
    · have HK := Lib.hid (show (!lenB 2 p) = true by rw [len_is, decide_eq_false (show ¬ p ≤ maxA 2 from hh), Bool.and_false, Bool.and_false, Bool.and_false]; rfl)
      generalize (!lenB 2 p) = y at *
      have hh2 : 128 < p := by omega
      go_enter Tryz.func76, Tryz.ntmps76
      go_wp2
      go_ret
      exact ⟨bool_eq HK.out.symm, rfl⟩
    have HK := Lib.hid (show (!lenB 2 p) = false by rw [len_is, decide_eq_true (show minA 2 ≤ p from hl), decide_eq_true (show p ≤ maxA 2 from hh)]; rfl)
    generalize (!lenB 2 p) = y at *
    have hh2 : ¬ 128 < p := by omega
    go_enter Tryz.func76, Tryz.ntmps76
    go_wp2
    go_ret
    exact ⟨bool_eq HK.out.symm, rfl⟩
  · clear h0 h3
    by_cases hl : 64 ≤ p
    rotate_left
    · have HK := Lib.hid (show (!lenB 3 p) = true by rw [len_is, decide_eq_false (show ¬ minA 3 ≤ p from hl)]; rfl)
      generalize (!lenB 3 p) = y at *
      have hh : ¬ 128 < p := by omega
      go_enter Tryz.func76, Tryz.ntmps76
      go_wp2
      go_ret
      exact ⟨bool_eq HK.out.symm, rfl⟩
    by_cases hh : p ≤ 128
    rotate_left
    · have HK := Lib.hid (show (!lenB 3 p) = true by rw [len_is, decide_eq_false (show ¬ p ≤ maxA 3 from hh), Bool.and_false, Bool.and_false, Bool.and_false]; rfl)
      generalize (!lenB 3 p) = y at *
      have hh2 : 128 < p := by omega
      go_enter Tryz.func76, Tryz.ntmps76
      go_wp2
      go_ret
      exact ⟨bool_eq HK.out.symm, rfl⟩
    have HK := Lib.hid (show (!lenB 3 p) = false by rw [len_is, decide_eq_true (show minA 3 ≤ p from hl), decide_eq_true (show p ≤ maxA 3 from hh)]; rfl)
    generalize (!lenB 3 p) = y at *
    have hh2 : ¬ 128 < p := by omega
    go_enter Tryz.func76, Tryz.ntmps76
    go_wp2
    go_ret
    exact ⟨bool_eq (by rw [HK.out]; exact decide_eq_false (by omega)), rfl⟩
set_option maxHeartbeats 1600000 in
theorem rwhole_any (ae : Int) (s : ByteArray) (p : Int) (w : World) (hl : lenB ae p = true) (hs : s.size = countN ae p) : Calls Tryz.prog 78 #[.int .i64 ae, .string s, .int .i64 p] w fun e w' => e = .returned (.string (wholeP ae s p)) ∧ Below w.heap.size w w' := by
  have hz := lay_size hl hs
  have hwl := whole_len hl hs
  have P2 := Lib.hid (fun V => Bits.rkeep_any ⟨(wholeL ae s).toArray⟩ p V (by rw [mk_size, hwl]; split <;> (try split) <;> omega))
  have P2 := Lib.hid (show ∀ V, Calls Tryz.prog 90 #[.string ⟨(wholeL ae s).toArray⟩, .int .i64 p] V fun e w' => e = .returned (.string (wholeP ae s p)) ∧ Below V.heap.size V w' from P2.out)
  rcases len_cases hl with ⟨rfl, rfl⟩ | ⟨rfl, a, b⟩ | ⟨rfl, a, b⟩ | ⟨rfl, a, b⟩
  · have HK := Lib.hid (show wholeP 0 s 0 = ⟨#[]⟩ from rfl)
    generalize wholeP 0 s 0 = y at *
    clear hz hwl hl hs P2
    go_enter Tryz.func78, Tryz.ntmps78
    go_wp2
    go_ret
    exact ⟨str_eq HK.out.symm, Below.refl _ _⟩
  · have P1 := Lib.hid (fun V => Pre.rfill_any s 4 V (by omega) (by decide))
    have P1 := Lib.hid (show ∀ V, Calls Tryz.prog 106 #[.string s, .int .i64 4] V fun e w' => e = .returned (.string ⟨(wholeL 1 s).toArray⟩) ∧ V = w' from P1.out)
    generalize wholeP 1 s p = y at *
    generalize ByteArray.mk (wholeL 1 s).toArray = x at *
    clear hz hwl hl hs a b
    go_enter Tryz.func78, Tryz.ntmps78
    go_wp2_with fail
    refine (P1.out _).mono ?_
    rintro r w' ⟨rfl, rfl⟩
    go_wp2_with fail
    refine (P2.out _).mono ?_
    rintro r w' ⟨rfl, hb⟩
    go_wp2
    go_ret
    exact ⟨rfl, hb⟩
  · have P1 := Lib.hid (fun V => Pre.rfill_any s 16 V (by omega) (by decide))
    have P1 := Lib.hid (show ∀ V, Calls Tryz.prog 106 #[.string s, .int .i64 16] V fun e w' => e = .returned (.string ⟨(wholeL 2 s).toArray⟩) ∧ V = w' from P1.out)
    generalize wholeP 2 s p = y at *
    generalize ByteArray.mk (wholeL 2 s).toArray = x at *
    clear hz hwl hl hs a b
    go_enter Tryz.func78, Tryz.ntmps78
    go_wp2_with fail
    refine (P1.out _).mono ?_
    rintro r w' ⟨rfl, rfl⟩
    go_wp2_with fail
    refine (P2.out _).mono ?_
    rintro r w' ⟨rfl, hb⟩
    go_wp2
    go_ret
    exact ⟨rfl, hb⟩
  · have P1 := Lib.hid (fun V => Pre.rfill_any s 8 V (by omega) (by decide))
    have hb8 : baseN 3 = 8 := rfl
    have hcn : leastN p ≤ 16 := by unfold leastN; omega
    have hfl : (fillL s.data.toList 8).length = 8 := fillL_length _ _ (by rw [size_list]; have := (count_le hl).2; omega)
    have HG := Lib.hid (show lgA ⟨(fillL s.data.toList (8 : Int).toNat).toArray⟩ = ⟨(wholeL 3 s).toArray⟩ from by
      have hz8 : (ByteArray.mk (fillL s.data.toList 8).toArray).size = 8 := by rw [mk_size, hfl]
      show lgA ⟨(fillL s.data.toList 8).toArray⟩ = _
      unfold lgA
      rw [if_pos hz8]
      exact text_eq (by show _ = lkH.data.toList ++ fillL s.data.toList 8; simp [ByteArray.data_append]))
    have P3 := Lib.hid (fun V => rlong_any ⟨(fillL s.data.toList (8 : Int).toNat).toArray⟩ V)
    rw [HG.out] at P3
    generalize wholeP 3 s p = y at *
    generalize ByteArray.mk (wholeL 3 s).toArray = x at *
    generalize (⟨(fillL s.data.toList (8 : Int).toNat).toArray⟩ : ByteArray) = u at *
    clear hz hwl hl hs a b HG hb8 hcn hfl
    go_enter Tryz.func78, Tryz.ntmps78
    go_wp2_with fail
    refine (P1.out _).mono ?_
    rintro r w' ⟨rfl, rfl⟩
    go_wp2_with fail
    refine (P3.out _).mono ?_
    rintro r w1 ⟨rfl, hb⟩
    have HB := Lib.hid hb
    clear hb
    go_wp2_with fail
    refine (P2.out _).mono ?_
    rintro r w2 ⟨rfl, hb⟩
    go_wp2
    go_ret
    exact ⟨rfl, bcall HB.out hb⟩
end Go.Proofs.YtfegdblaohhdoaaGreatDoor.J2
namespace Go.Proofs.YtfegdblaohhdoaaGreatDoor.G1
open Go.ChangeShapes Go.WideShapes Go.ChangeAt Go.RowKit
open Go.Proofs.YtfegdblaohhdoaaGreatDoor.Ms
open Go.Proofs.YtfegdblaohhdoaaGreatDoor.S1
open Go.Proofs.YtfegdblaohhdoaaGreatDoor.Lk
open Go.Proofs.YtfegdblaohhdoaaGreatDoor.Nu
open Go.Proofs.YtfegdblaohhdoaaGreatDoor.Cur (numL)
open Go.Proofs.YtfegdblaohhdoaaGreatDoor.Oct (fitsB)
open Go.Proofs.YtfegdblaohhdoaaGreatDoor.Own (k7 k8 k9 k10 ownM isKind fieldsOf)
open Go.Proofs.YtfegdblaohhdoaaGreatDoor.F1 (bt bt_nn bt_lt num_two putB putO okT encT enc1 ok1 outT placed)
set_option linter.unusedVariables false
set_option maxRecDepth 100000
set_option maxRecDepth 100000

/-- Is it bare? -/
def bare (m : M) : Bool := isKind m && M.same m (ownM m)
theorem is_7 {m : M} (h : m.kind = 7) : isKind m = true ∧ ownM m = { k7 m with kind := m.kind } := by
  have hi : isKind m = true := by simp [isKind, h]
  exact ⟨hi, by simp [ownM, hi, fieldsOf, h]⟩
theorem is_8 {m : M} (h : m.kind = 8) : isKind m = true ∧ ownM m = { k8 m with kind := m.kind } := by
  have hi : isKind m = true := by simp [isKind, h]
  exact ⟨hi, by simp [ownM, hi, fieldsOf, h]⟩
theorem is_9 {m : M} (h : m.kind = 9) : isKind m = true ∧ ownM m = { k9 m with kind := m.kind } := by
  have hi : isKind m = true := by simp [isKind, h]
  exact ⟨hi, by simp [ownM, hi, fieldsOf, h]⟩
theorem is_10 {m : M} (h : m.kind = 10) : isKind m = true ∧ ownM m = { k10 m with kind := m.kind } := by
  have hi : isKind m = true := by simp [isKind, h]
  exact ⟨hi, by simp [ownM, hi, fieldsOf, h]⟩
/-- Is there room for each of its numbers? -/
def nums (m : M) : Bool := fitsB m.nonce 2 && (fitsB m.interval 2 && (fitsB m.seq 2 && fitsB m.cost 2))
/-- How many bytes an address has, by its encoding. -/
def sizeA (ae : Int) : Nat := if ae = 1 then 4 else if ae = 2 then 16 else if ae = 3 then 8 else 0
/-- May an address be, in an encoding? -/
def shB (ae : Int) (a : ByteArray) : Bool := if ae = 3 then link a else decide (0 ≤ ae ∧ ae ≤ 3) && decide (a.size = sizeA ae)
/-- What stands of it; and what stands so. -/
def shT (ae : Int) (a : ByteArray) : ByteArray := if ae = 3 then shA a else if shB ae a then a else ⟨#[]⟩
def lgT (ae : Int) (s : ByteArray) : ByteArray := if ae = 3 then lgA s else s
/-- What a kind has for itself. -/
def kindB (m : M) : Bool := if m.kind = 7 ∨ m.kind = 8 then true else if m.kind = 9 then decide (0 ≤ m.flags ∧ m.flags ≤ 1) else if m.kind = 10 then shB m.ae m.addr else false
/-- May it be? -/
def okF (m : M) : Bool := bare m && (okS m.sl && (nums m && kindB m))
def typF (m : M) : Int := if m.kind = 7 then 2 else if m.kind = 8 then 3 else if m.kind = 9 then 4 else 5
/-- The fields of each kind. -/
def fld7 (m : M) : List UInt8 := 0 :: 0 :: (layN m.nonce 2 ++ layN m.interval 2)
def fld9 (m : M) : List UInt8 := layN (m.flags * 32768) 2 ++ (layN m.seq 2 ++ layN m.interval 2)
def fld10 (m : M) : List UInt8 := layN m.ae 1 ++ (0 :: (layN m.cost 2 ++ (layN m.interval 2 ++ (shT m.ae m.addr).data.toList)))
def fldF (m : M) : List UInt8 := if m.kind = 7 then fld7 m else if m.kind = 8 then layN m.nonce 2 else if m.kind = 9 then fld9 m else fld10 m
/-- A TLV's data; its bytes. -/
def datF (m : M) : ByteArray := ⟨(fldF m ++ (putS m.sl).data.toList).toArray⟩
def putF (m : M) : ByteArray := if okF m then putO (typF m) (datF m) else ⟨#[]⟩
theorem putF_yes {m : M} (h : okF m = true) : putF m = putO (typF m) (datF m) := by unfold putF; rw [if_pos h]
theorem putF_no {m : M} (h : okF m = false) : putF m = ⟨#[]⟩ := by unfold putF; rw [if_neg (by rw [h]; exact Bool.false_ne_true)]

/-- The number of two bytes. -/
def num2 (d : ByteArray) (a : Nat) : Int := ((numL ((d.data.toList.drop a).take 2) : Nat) : Int)
/-- What the fields of each type say. -/
def hd2 (d : ByteArray) : M := { M.zero with kind := 7, nonce := num2 d 2, interval := num2 d 4 }
def hd3 (d : ByteArray) : M := { M.zero with kind := 8, nonce := num2 d 0 }
def hd4 (d : ByteArray) : M := { M.zero with kind := 9, flags := bt d 0 / 128, seq := num2 d 2, interval := num2 d 4 }
def hd5 (d : ByteArray) : M := { M.zero with kind := 10, ae := bt d 0, cost := num2 d 2, interval := num2 d 4, addr := lgT (bt d 0) (d.extract 6 (6 + sizeA (bt d 0))) }
def hdF (t : Int) (d : ByteArray) : M := if t = 2 then hd2 d else if t = 3 then hd3 d else if t = 4 then hd4 d else hd5 d
/-- How many bytes the fields have. -/
def szF (t : Int) (d : ByteArray) : Nat := if t = 3 then 2 else if t = 5 then 6 + sizeA (bt d 0) else 6
/-- Is it an Ihu of an encoding that there isn't? -/
def noF (t : Int) (d : ByteArray) : Prop := t = 5 ∧ 3 < bt d 0
/-- The message that a TLV says, whether it counts, the error. -/
noncomputable def outF (t : Int) (d : ByteArray) : M × Bool × Int :=
  open Classical in
  if d.size < szF t d then (M.zero, false, 2) else if noF t d then (M.zero, false, 0)
  else if (outS (d.extract (szF t d) d.size)).2.2 = 0 ∧ (outS (d.extract (szF t d) d.size)).2.1 = true then ({ hdF t d with sl := (outS (d.extract (szF t d) d.size)).1 }, true, 0)
  else (M.zero, false, (outS (d.extract (szF t d) d.size)).2.2)
theorem out_short {t : Int} {d : ByteArray} (h : d.size < szF t d) : outF t d = (M.zero, false, 2) := by unfold outF; rw [if_pos h]
theorem out_none {t : Int} {d : ByteArray} (h : ¬ d.size < szF t d) (k : noF t d) : outF t d = (M.zero, false, 0) := by unfold outF; rw [if_neg h, if_pos k]
theorem out_yes {t : Int} {d : ByteArray} {l : List El} (h : ¬ d.size < szF t d) (k : ¬ noF t d) (o : outS (d.extract (szF t d) d.size) = (l, true, 0)) : outF t d = ({ hdF t d with sl := l }, true, 0) := by
  unfold outF; rw [if_neg h, if_neg k, o, if_pos ⟨rfl, rfl⟩]
theorem out_sub {t : Int} {d : ByteArray} {l : List El} {b : Bool} {e : Int} (h : ¬ d.size < szF t d) (k : ¬ noF t d) (o : outS (d.extract (szF t d) d.size) = (l, b, e)) (n : ¬ (e = 0 ∧ b = true)) : outF t d = (M.zero, false, e) := by
  unfold outF; rw [if_neg h, if_neg k, o, if_neg n]
theorem size_list (a : ByteArray) : a.data.toList.length = a.size := by simp

theorem sizeA_le (ae : Int) : sizeA ae ≤ 16 := by unfold sizeA; split <;> (try split) <;> (try split) <;> omega
theorem size_far {ae : Int} (h : 3 < ae) : sizeA ae = 0 := by unfold sizeA; rw [if_neg (by omega), if_neg (by omega), if_neg (by omega)]
theorem sh_3 (a : ByteArray) : shB 3 a = link a ∧ shT 3 a = shA a := ⟨rfl, rfl⟩
theorem sh_n {ae : Int} (h : ¬ ae = 3) (a : ByteArray) : shB ae a = (decide (0 ≤ ae ∧ ae ≤ 3) && decide (a.size = sizeA ae)) ∧ shT ae a = if shB ae a then a else ⟨#[]⟩ := by
  unfold shT shB; rw [if_neg h, if_neg h]; exact ⟨rfl, rfl⟩
theorem sh_facts {ae : Int} {a : ByteArray} (h : shB ae a = true) : 0 ≤ ae ∧ ae ≤ 3 ∧ (shT ae a).size = sizeA ae ∧ lgT ae (shT ae a) = a := by
  by_cases h3 : ae = 3
  · subst h3
    exact ⟨by decide, by decide, sh_size h, lg_sh h⟩
  · have e := h
    rw [(sh_n h3 a).1] at e
    simp only [Bool.and_eq_true, decide_eq_true_eq] at e
    have e2 : shT ae a = a := by rw [(sh_n h3 a).2, if_pos h]
    exact ⟨e.1.1, e.1.2, by rw [e2]; exact e.2, by rw [e2]; unfold lgT; rw [if_neg h3]⟩
theorem lg_facts {ae : Int} {s : ByteArray} (h0 : 0 ≤ ae) (h1 : ae ≤ 3) (hs : s.size = sizeA ae) : shB ae (lgT ae s) = true ∧ shT ae (lgT ae s) = s := by
  by_cases h3 : ae = 3
  · subst h3
    exact link_lg hs
  · have e : lgT ae s = s := by unfold lgT; rw [if_neg h3]
    have hb : shB ae s = true := by
      rw [(sh_n h3 s).1, decide_eq_true ⟨h0, h1⟩, decide_eq_true hs]; rfl
    rw [e]
    exact ⟨hb, by rw [(sh_n h3 s).2, if_pos hb]⟩

structure Ok (m : M) : Prop where
  bare : bare m = true
  subs : okS m.sl = true
  nonce : fitsB m.nonce 2 = true
  interval : fitsB m.interval 2 = true
  seq : fitsB m.seq 2 = true
  cost : fitsB m.cost 2 = true
  kind : kindB m = true
theorem ok_iff (m : M) : okF m = true ↔ Ok m := by
  unfold okF nums
  simp only [Bool.and_eq_true]
  exact ⟨fun ⟨a, b, ⟨c, d, e, f⟩, g⟩ => ⟨a, b, c, d, e, f, g⟩, fun ⟨a, b, c, d, e, f, g⟩ => ⟨a, b, ⟨c, d, e, f⟩, g⟩⟩
theorem kind_cases {m : M} (h : kindB m = true) : m.kind = 7 ∨ m.kind = 8 ∨ (m.kind = 9 ∧ 0 ≤ m.flags ∧ m.flags ≤ 1) ∨ (m.kind = 10 ∧ shB m.ae m.addr = true) := by
  unfold kindB at h
  split at h
  · rename_i h1
    rcases h1 with h1 | h1
    · exact .inl h1
    · exact .inr (.inl h1)
  split at h
  · rename_i h1 h2
    exact .inr (.inr (.inl ⟨h2, by simpa using h⟩))
  split at h
  · rename_i h1 h2 h3
    exact .inr (.inr (.inr ⟨h3, h⟩))
  · cases h
theorem fits2 {n : Int} (h0 : 0 ≤ n) (h1 : n < 65536) : fitsB n 2 = true := (Oct.fitsB_iff n 2).2 ⟨by omega, by omega, h0, by simpa [Oct.pw] using h1⟩
theorem fits1 {n : Int} (h0 : 0 ≤ n) (h1 : n < 256) : fitsB n 1 = true := (Oct.fitsB_iff n 1).2 ⟨by omega, by omega, h0, by simpa [Oct.pw] using h1⟩
theorem flags_fit {n : Int} (h0 : 0 ≤ n) (h1 : n ≤ 1) : fitsB (n * 32768) 2 = true := fits2 (by omega) (by omega)

theorem f_7 {m : M} (h : m.kind = 7) : typF m = 2 ∧ fldF m = fld7 m := by unfold typF fldF; rw [if_pos h, if_pos h]; exact ⟨rfl, rfl⟩
theorem f_8 {m : M} (h : m.kind = 8) : typF m = 3 ∧ fldF m = layN m.nonce 2 := by
  unfold typF fldF; rw [if_neg (by omega), if_pos h, if_neg (by omega), if_pos h]; exact ⟨rfl, rfl⟩
theorem f_9 {m : M} (h : m.kind = 9) : typF m = 4 ∧ fldF m = fld9 m := by
  unfold typF fldF; rw [if_neg (by omega), if_neg (by omega), if_pos h, if_neg (by omega), if_neg (by omega), if_pos h]; exact ⟨rfl, rfl⟩
theorem f_10 {m : M} (h : m.kind = 10) : typF m = 5 ∧ fldF m = fld10 m := by
  unfold typF fldF; rw [if_neg (by omega), if_neg (by omega), if_neg (by omega), if_neg (by omega), if_neg (by omega), if_neg (by omega)]; exact ⟨rfl, rfl⟩
theorem fld_len {m : M} (h : okF m = true) : (fldF m).length ≤ 22 ∧ 2 ≤ typF m ∧ typF m ≤ 5 := by
  obtain ⟨_, _, n1, n2, n3, n4, hk⟩ := (ok_iff m).1 h
  rcases kind_cases hk with k | k | ⟨k, f0, f1⟩ | ⟨k, ha⟩
  · rw [(f_7 k).1, (f_7 k).2]; unfold fld7; simp [lay_len n1, lay_len n2]
  · rw [(f_8 k).1, (f_8 k).2]; simp [lay_len n1]
  · rw [(f_9 k).1, (f_9 k).2]; unfold fld9; simp [lay_len (flags_fit f0 f1), lay_len n2, lay_len n3]
  · obtain ⟨a0, a1, a2, _⟩ := sh_facts ha
    have := sizeA_le m.ae
    rw [(f_10 k).1, (f_10 k).2]; unfold fld10
    simp [lay_len n2, lay_len n4, lay_len (fits1 (n := m.ae) a0 (by omega)), a2]
    omega
theorem dat_size (m : M) : (datF m).size = (fldF m).length + (putS m.sl).size := by
  show (fldF m ++ (putS m.sl).data.toList).toArray.size = _
  simp
theorem dat_le {m : M} (h : okF m = true) : (datF m).size ≤ 222 := by
  have := (fld_len h).1
  have := putS_le m.sl
  rw [dat_size]; omega
theorem putB_yes {m : M} (h : okF m = true) : putB (typF m) (datF m) = true := by
  have := fld_len h
  have := dat_le h
  unfold putB
  simp
  omega
theorem putF_ok {m : M} (h : okF m = true) : (putF m).data.toList = enc1 (datF m, typF m) ∧ ok1 (datF m, typF m) := by
  have h1 := fld_len h
  have h2 := dat_le h
  have ho : ok1 (datF m, typF m) := ⟨by show 0 ≤ typF m; omega, by show typF m ≤ 255; omega, by show (datF m).size ≤ 255; omega, fun e => by have : typF m = 0 := e; omega⟩
  refine ⟨?_, ho⟩
  rw [putF_yes h, (F1.put_ok ho (by show ¬ typF m = 0; omega)).2]
theorem putF_size {m : M} (h : okF m = true) : (putF m).size = 2 + (fldF m).length + (putS m.sl).size := by
  have h1 := fld_len h
  rw [← size_list, (putF_ok h).1, F1.enc1_len, if_neg (by show ¬ typF m = 0; omega)]
  show 2 + (datF m).size = _
  rw [dat_size]; omega
theorem cut7 (c0 c1 : UInt8) (x1 x2 r : List UInt8) (h1 : x1.length = 2) (h2 : x2.length = 2) :
    ((c0 :: c1 :: (x1 ++ (x2 ++ r))).drop 2).take 2 = x1 ∧ ((c0 :: c1 :: (x1 ++ (x2 ++ r))).drop 4).take 2 = x2 ∧ (c0 :: c1 :: (x1 ++ (x2 ++ r))).drop 6 = r ∧ (c0 :: c1 :: (x1 ++ (x2 ++ r))).length = 6 + r.length := by
  match x1, h1, x2, h2 with
  | [_, _], _, [_, _], _ => exact ⟨rfl, rfl, rfl, by simp; omega⟩
theorem cut8 (x1 r : List UInt8) (h1 : x1.length = 2) : (x1 ++ r).take 2 = x1 ∧ (x1 ++ r).drop 2 = r := by
  match x1, h1 with
  | [_, _], _ => exact ⟨rfl, rfl⟩
theorem cut9 (x0 x1 x2 r : List UInt8) (h0 : x0.length = 2) (h1 : x1.length = 2) (h2 : x2.length = 2) :
    (x0 ++ (x1 ++ (x2 ++ r))).take 2 = x0 ∧ ((x0 ++ (x1 ++ (x2 ++ r))).drop 2).take 2 = x1 ∧ ((x0 ++ (x1 ++ (x2 ++ r))).drop 4).take 2 = x2 ∧ (x0 ++ (x1 ++ (x2 ++ r))).drop 6 = r := by
  match x0, h0, x1, h1, x2, h2 with
  | [_, _], _, [_, _], _, [_, _], _ => exact ⟨rfl, rfl, rfl, rfl⟩
theorem num2_of {d : ByteArray} {a : Nat} {v : Int} (h : (d.data.toList.drop a).take 2 = layN v 2) (hf : fitsB v 2 = true) : num2 d a = v := by unfold num2; rw [h]; exact lay_num hf
theorem ext_to (d : ByteArray) (a : Nat) : (d.extract a d.size).data.toList = d.data.toList.drop a := by
  rw [ext_list, List.take_of_length_le (by rw [List.length_drop, size_list]; exact Nat.le_refl _)]
/-- A message that may be is that of its TLV. -/
theorem put_back {m : M} (h : okF m = true) : outF (typF m) (datF m) = ({ ownM m with sa := none, sc := 0 }, true, 0) := by
  obtain ⟨_, hx, n1, n2, n3, n4, hk⟩ := (ok_iff m).1 h
  have hl : (datF m).data.toList = fldF m ++ (putS m.sl).data.toList := rfl
  generalize datF m = d at *
  have tail : ∀ z, d.data.toList.drop z = (putS m.sl).data.toList → outS (d.extract z d.size) = (m.sl, true, 0) := fun z hz => by
    rw [show d.extract z d.size = putS m.sl from text_eq (by rw [ext_to, hz])]
    exact put_out hx
  rcases kind_cases hk with k | k | ⟨k, f0, f1⟩ | ⟨k, ha⟩
  · rw [(f_7 k).2] at hl
    rw [(f_7 k).1, (is_7 k).2]
    have e : d.data.toList = 0 :: 0 :: (layN m.nonce 2 ++ (layN m.interval 2 ++ (putS m.sl).data.toList)) := by rw [hl]; simp [fld7]
    obtain ⟨q1, q2, q3, q4⟩ := cut7 0 0 _ _ (putS m.sl).data.toList (lay_len n1) (lay_len n2)
    rw [← e] at q1 q2 q3 q4
    rw [out_yes (t := 2) (by show ¬ d.size < 6; rw [← size_list, q4]; omega) (fun x => by have := x.1; omega) (tail 6 q3)]
    rw [show hdF 2 d = hd2 d from rfl]
    unfold hd2
    rw [num2_of q1 n1, num2_of q2 n2, k]
    rfl
  · rw [(f_8 k).2] at hl
    rw [(f_8 k).1, (is_8 k).2]
    obtain ⟨q1, q2⟩ := cut8 _ (putS m.sl).data.toList (lay_len n1)
    have hz : 2 ≤ d.size := by rw [← size_list, hl, List.length_append, lay_len (k := 2) n1]; omega
    rw [← hl] at q1 q2
    rw [out_yes (t := 3) (by show ¬ d.size < 2; omega) (fun x => by have := x.1; omega) (tail 2 q2)]
    rw [show hdF 3 d = hd3 d from rfl]
    unfold hd3
    rw [num2_of (a := 0) q1 n1, k]
    rfl
  · rw [(f_9 k).2] at hl
    rw [(f_9 k).1, (is_9 k).2]
    have hff := flags_fit f0 f1
    have e : d.data.toList = layN (m.flags * 32768) 2 ++ (layN m.seq 2 ++ (layN m.interval 2 ++ (putS m.sl).data.toList)) := by rw [hl]; simp [fld9]
    have hz : 6 ≤ d.size := by rw [← size_list, e]; simp only [List.length_append, lay_len hff, lay_len n2, lay_len n3]; omega
    obtain ⟨q0, q1, q2, q3⟩ := cut9 _ _ _ (putS m.sl).data.toList (lay_len hff) (lay_len n3) (lay_len n2)
    rw [← e] at q0 q1 q2 q3
    rw [out_yes (t := 4) (by show ¬ d.size < 6; omega) (fun x => by have := x.1; omega) (tail 6 q3)]
    rw [show hdF 4 d = hd4 d from rfl]
    have hb : bt d 0 / 128 = m.flags := by
      have e1 : 256 * bt d 0 + bt d 1 = m.flags * 32768 := (num_two d 0 (by omega)).symm.trans (num2_of (a := 0) q0 hff)
      have := bt_nn d 1
      have := bt_lt d 1
      omega
    unfold hd4
    rw [hb, num2_of q1 n3, num2_of q2 n2, k]
    rfl
  · rw [(f_10 k).2] at hl
    rw [(f_10 k).1, (is_10 k).2]
    obtain ⟨a0, a1, a2, a3⟩ := sh_facts ha
    have hf := fits1 (n := m.ae) a0 (by omega)
    obtain ⟨c, hc⟩ : ∃ c, layN m.ae 1 = [c] := by
      have := lay_len hf
      match layN m.ae 1, this with
      | [c], _ => exact ⟨c, rfl⟩
    have e : d.data.toList = c :: 0 :: (layN m.cost 2 ++ (layN m.interval 2 ++ ((shT m.ae m.addr).data.toList ++ (putS m.sl).data.toList))) := by rw [hl]; simp [fld10, hc]
    obtain ⟨q1, q2, q3, q4⟩ := cut7 c 0 _ _ ((shT m.ae m.addr).data.toList ++ (putS m.sl).data.toList) (lay_len n4) (lay_len n2)
    rw [← e] at q1 q2 q3 q4
    have hb : bt d 0 = m.ae := by
      have e1 := lay_num hf
      rw [hc] at e1
      unfold bt
      rw [e]
      show (c.toNat : Int) = _
      rw [← e1]
      simp [numL]
    have hz : d.size = 6 + (sizeA m.ae + (putS m.sl).size) := by rw [← size_list, q4, List.length_append, size_list, size_list, a2]
    have e6 : d.data.toList.drop (6 + sizeA m.ae) = (putS m.sl).data.toList := by
      rw [← List.drop_drop, q3, ← a2, ← size_list]
      exact List.drop_left ..
    have ea : d.extract 6 (6 + sizeA m.ae) = shT m.ae m.addr := text_eq (by
      rw [ext_list, Nat.add_sub_cancel_left, q3, ← a2, ← size_list]
      exact List.take_left ..)
    have hs : szF 5 d = 6 + sizeA m.ae := by show 6 + sizeA (bt d 0) = _; rw [hb]
    rw [out_yes (t := 5) (l := m.sl) (by rw [hs]; omega) (fun x => by have := x.2; omega) (by rw [hs]; exact tail _ e6)]
    rw [show hdF 5 d = hd5 d from rfl]
    unfold hd5
    rw [hb, ea, a3, num2_of q1 n4, num2_of q2 n2, k]
    rfl
theorem own_same {m : M} (h : okF m = true) : M.same m { ownM m with sa := none, sc := 0 } = true ∧ (ownM m).la = none ∧ (ownM m).ll = [] ∧ (ownM m).lc = 0 ∧ (ownM m).sl = m.sl := by
  obtain ⟨hb, _, _, _, _, _, hk⟩ := (ok_iff m).1 h
  have h1 : M.same m (ownM m) = true := by unfold bare at hb; simp at hb; exact hb.2
  refine ⟨h1, ?_⟩
  rcases kind_cases hk with k | k | ⟨k, _⟩ | ⟨k, _⟩
  · rw [(is_7 k).2]; exact ⟨rfl, rfl, rfl, rfl⟩
  · rw [(is_8 k).2]; exact ⟨rfl, rfl, rfl, rfl⟩
  · rw [(is_9 k).2]; exact ⟨rfl, rfl, rfl, rfl⟩
  · rw [(is_10 k).2]; exact ⟨rfl, rfl, rfl, rfl⟩
theorem num2_fits {d : ByteArray} {a : Nat} (h : a + 2 ≤ d.size) : fitsB (num2 d a) 2 = true := num_fits _ 2 (by rw [List.length_take, List.length_drop, size_list]; omega) (by omega) (by omega)
theorem zero_fits : fitsB 0 2 = true := fits2 (by omega) (by omega)
/-- A message that counts may be, and its fields have as many bytes. -/
theorem get_ok {t : Int} {d : ByteArray} {l : List El} (h2 : 2 ≤ t) (h5 : t ≤ 5) (h : ¬ d.size < szF t d) (k : ¬ noF t d) (hl : okS l = true) :
    okF { hdF t d with sl := l } = true ∧ (fldF { hdF t d with sl := l }).length = szF t d := by
  rcases (show t = 2 ∨ t = 3 ∨ t = 4 ∨ t = 5 by omega) with rfl | rfl | rfl | rfl
  · have hz : 6 ≤ d.size := by have : ¬ d.size < 6 := h; omega
    have n1 := num2_fits (d := d) (a := 2) (by omega)
    have n2 := num2_fits (d := d) (a := 4) (by omega)
    show okF { hd2 d with sl := l } = true ∧ (fldF { hd2 d with sl := l }).length = 6
    refine ⟨(ok_iff _).2 ⟨?_, hl, n1, n2, zero_fits, zero_fits, rfl⟩, ?_⟩
    · unfold bare
      rw [(is_7 rfl).1, (is_7 rfl).2]
      unfold M.same M.flatE k7 hd2 M.zero
      simp
    · rw [(f_7 rfl).2]
      show (0 :: 0 :: (layN (num2 d 2) 2 ++ layN (num2 d 4) 2)).length = 6
      simp [lay_len n1, lay_len n2]
  · have hz : 2 ≤ d.size := by have : ¬ d.size < 2 := h; omega
    have n1 := num2_fits (d := d) (a := 0) (by omega)
    show okF { hd3 d with sl := l } = true ∧ (fldF { hd3 d with sl := l }).length = 2
    refine ⟨(ok_iff _).2 ⟨?_, hl, n1, zero_fits, zero_fits, zero_fits, rfl⟩, ?_⟩
    · unfold bare
      rw [(is_8 rfl).1, (is_8 rfl).2]
      unfold M.same M.flatE k8 hd3 M.zero
      simp
    · rw [(f_8 rfl).2]
      show (layN (num2 d 0) 2).length = 2
      exact lay_len n1
  · have hz : 6 ≤ d.size := by have : ¬ d.size < 6 := h; omega
    have n1 := num2_fits (d := d) (a := 2) (by omega)
    have n2 := num2_fits (d := d) (a := 4) (by omega)
    have b0 := bt_nn d 0
    have b1 := bt_lt d 0
    show okF { hd4 d with sl := l } = true ∧ (fldF { hd4 d with sl := l }).length = 6
    refine ⟨(ok_iff _).2 ⟨?_, hl, zero_fits, n2, n1, zero_fits, ?_⟩, ?_⟩
    · unfold bare
      rw [(is_9 rfl).1, (is_9 rfl).2]
      unfold M.same M.flatE k9 hd4 M.zero
      simp
    · show decide (0 ≤ bt d 0 / 128 ∧ bt d 0 / 128 ≤ 1) = true
      exact decide_eq_true ⟨by omega, by omega⟩
    · rw [(f_9 rfl).2]
      show (layN (bt d 0 / 128 * 32768) 2 ++ (layN (num2 d 2) 2 ++ layN (num2 d 4) 2)).length = 6
      simp [lay_len n1, lay_len n2, lay_len (flags_fit (n := bt d 0 / 128) (by omega) (by omega))]
  · have hz : 6 + sizeA (bt d 0) ≤ d.size := by have : ¬ d.size < 6 + sizeA (bt d 0) := h; omega
    have n1 := num2_fits (d := d) (a := 2) (by omega)
    have n2 := num2_fits (d := d) (a := 4) (by omega)
    have b0 := bt_nn d 0
    have b1 : bt d 0 ≤ 3 := by
      have : ¬ (3 < bt d 0) := fun x => k ⟨rfl, x⟩
      omega
    have hs : (d.extract 6 (6 + sizeA (bt d 0))).size = sizeA (bt d 0) := by simp; omega
    obtain ⟨l1, l2⟩ := lg_facts b0 b1 hs
    show okF { hd5 d with sl := l } = true ∧ (fldF { hd5 d with sl := l }).length = 6 + sizeA (bt d 0)
    refine ⟨(ok_iff _).2 ⟨?_, hl, zero_fits, n2, zero_fits, n1, ?_⟩, ?_⟩
    · unfold bare
      rw [(is_10 rfl).1, (is_10 rfl).2]
      unfold M.same M.flatE k10 hd5 M.zero
      simp
    · exact l1
    · rw [(f_10 rfl).2]
      show (layN (bt d 0) 1 ++ (0 :: (layN (num2 d 2) 2 ++ (layN (num2 d 4) 2 ++ (shT (bt d 0) (lgT (bt d 0) (d.extract 6 (6 + sizeA (bt d 0))))).data.toList)))).length = _
      rw [l2]
      simp only [List.length_append, List.length_cons, lay_len n1, lay_len n2, lay_len (fits1 b0 (show bt d 0 < 256 by omega)), size_list, hs]
      omega
/-- What a TLV comes to. -/
theorem out_cases {t : Int} {d : ByteArray} (h2 : 2 ≤ t) (h5 : t ≤ 5) : (∃ e, outF t d = (M.zero, false, e)) ∨
    ∃ r, outF t d = (r, true, 0) ∧ okF r = true ∧ (putF r).size ≤ d.size + 2 ∧ r.la = none ∧ r.ll = [] ∧ r.lc = 0 := by
  by_cases h : d.size < szF t d
  · exact .inl ⟨_, out_short h⟩
  by_cases k : noF t d
  · exact .inl ⟨_, out_none h k⟩
  have hz := outS_ok (d.extract (szF t d) d.size)
  have hy : (d.extract (szF t d) d.size).size = d.size - szF t d := by simp
  obtain ⟨⟨l, b, e⟩, ho⟩ : ∃ p, outS (d.extract (szF t d) d.size) = p := ⟨_, rfl⟩
  rw [ho] at hz
  by_cases n : e = 0 ∧ b = true
  · obtain ⟨rfl, rfl⟩ := n
    obtain ⟨g1, g2⟩ := get_ok h2 h5 h k hz.1
    refine .inr ⟨_, out_yes h k ho, g1, ?_, ?_⟩
    · rw [putF_size g1, g2]
      have : (putS l).size ≤ (d.extract (szF t d) d.size).size := hz.2
      show 2 + szF t d + (putS l).size ≤ _
      omega
    · rcases (show t = 2 ∨ t = 3 ∨ t = 4 ∨ t = 5 by omega) with rfl | rfl | rfl | rfl <;> exact ⟨rfl, rfl, rfl⟩
  · exact .inl ⟨_, out_sub h k ho n⟩
theorem out_len (t : Int) (d : ByteArray) (h2 : 2 ≤ t) (h5 : t ≤ 5) : (outF t d).1.la = none ∧ (outF t d).1.ll = [] ∧ (outF t d).1.lc = 0 ∧ (outF t d).1.sl.length ≤ 100 ∧ ∀ x ∈ (outF t d).1.sl, x.1.size ≤ 1099511627776 := by
  rcases out_cases (d := d) h2 h5 with ⟨e, h⟩ | ⟨r, h, ho, _, ha, hb, hc⟩
  · rw [h]; exact ⟨rfl, rfl, rfl, Nat.zero_le _, fun x hx => absurd hx (by show ¬ x ∈ ([] : List El); simp)⟩
  · rw [h]
    have := ((ok_iff r).1 ho).subs
    exact ⟨ha, hb, hc, okS_len this, okS_mem this⟩
end Go.Proofs.YtfegdblaohhdoaaGreatDoor.G1
namespace Go.Proofs.YtfegdblaohhdoaaGreatDoor.I1
open Go.ChangeShapes Go.WideShapes Go.ChangeAt Go.RowKit
open Go.Proofs.YtfegdblaohhdoaaGreatDoor.Ms
open Go.Proofs.YtfegdblaohhdoaaGreatDoor.S1 (okS outS)
open Go.Proofs.YtfegdblaohhdoaaGreatDoor.G1 (outF)
open Go.Proofs.YtfegdblaohhdoaaGreatDoor.J1 (outJ)
open Go.Proofs.YtfegdblaohhdoaaGreatDoor.K1
open Go.Proofs.YtfegdblaohhdoaaGreatDoor.F1
open Go.Proofs.YtfegdblaohhdoaaGreatDoor.Nu (text_eq ext_list)
set_option linter.unusedVariables false
set_option maxRecDepth 100000
set_option maxRecDepth 100000

/-- A message of a type that nobody knows. -/
def opM (t : Int) (d : ByteArray) : M := { M.zero with kind := 14, typ := t, data := d }
/-- A message's answer, beside what is known. -/
def tell (c : Kx) (p : M × Bool × Int) : Kx × List M × Int := (c, if p.2.2 = 0 ∧ p.2.1 = true then [p.1] else [], p.2.2)
/-- A TLV's messages, what is known behind it, or its error. -/
noncomputable def one (c : Kx) (t : Int) (d : ByteArray) : Kx × List M × Int :=
  if t = 0 ∨ t = 1 then (c, [], 0) else if 2 ≤ t ∧ t ≤ 5 then tell c (outF t d) else if 6 ≤ t ∧ t ≤ 8 then outC c t d else if t = 9 ∨ t = 10 then tell c (outJ t d) else (c, [opM t d], 0)
theorem one_pad {t : Int} (h : t = 0 ∨ t = 1) (c : Kx) (d : ByteArray) : one c t d = (c, [], 0) := by unfold one; rw [if_pos h]
theorem one_f {t : Int} (h2 : 2 ≤ t) (h5 : t ≤ 5) (c : Kx) (d : ByteArray) : one c t d = tell c (outF t d) := by unfold one; rw [if_neg (by omega), if_pos ⟨h2, h5⟩]
theorem one_c {t : Int} (h6 : 6 ≤ t) (h8 : t ≤ 8) (c : Kx) (d : ByteArray) : one c t d = outC c t d := by unfold one; rw [if_neg (by omega), if_neg (by omega), if_pos ⟨h6, h8⟩]
theorem one_j {t : Int} (h : t = 9 ∨ t = 10) (c : Kx) (d : ByteArray) : one c t d = tell c (outJ t d) := by unfold one; rw [if_neg (by omega), if_neg (by omega), if_neg (by omega), if_pos h]
theorem one_o {t : Int} (h : t < 0 ∨ 10 < t) (c : Kx) (d : ByteArray) : one c t d = (c, [opM t d], 0) := by unfold one; rw [if_neg (by omega), if_neg (by omega), if_neg (by omega), if_neg (by omega)]

/-- Small: it has no destinations, and few Subs. -/
def Sml (m : M) : Prop := m.la = none ∧ m.ll = [] ∧ m.lc = 0 ∧ m.sl.length ≤ 100 ∧ ∀ x ∈ m.sl, x.1.size ≤ 1099511627776
theorem sml_op (t : Int) (d : ByteArray) : Sml (opM t d) := ⟨rfl, rfl, rfl, by simp [opM, M.zero], fun x hx => by simp [opM, M.zero] at hx⟩
/-- What a TLV makes: what is known may be; one message at most, and none beside an error, which changes nothing. -/
structure Fine (c : Kx) (p : Kx × List M × Int) : Prop where
  ok : okC p.1 = true
  told : p.2.1 = [] ∨ ∃ m, p.2.1 = [m] ∧ Sml m
  err : ¬ p.2.2 = 0 → p = (c, [], p.2.2)
theorem fine_tell {c : Kx} (hc : okC c = true) {p : M × Bool × Int} (hs : Sml p.1) : Fine c (tell c p) := by
  unfold tell
  by_cases h : p.2.2 = 0 ∧ p.2.1 = true
  · rw [if_pos h]; exact ⟨hc, .inr ⟨_, rfl, hs⟩, fun k => absurd h.1 k⟩
  · rw [if_neg h]; exact ⟨hc, .inl rfl, fun _ => rfl⟩
theorem one_fine {c : Kx} (hc : okC c = true) (t : Int) (d : ByteArray) : Fine c (one c t d) := by
  by_cases h0 : t = 0 ∨ t = 1
  · rw [one_pad h0]; exact ⟨hc, .inl rfl, fun _ => rfl⟩
  by_cases h1 : 2 ≤ t ∧ t ≤ 5
  · rw [one_f h1.1 h1.2]; exact fine_tell hc (G1.out_len t d h1.1 h1.2)
  by_cases h2 : 6 ≤ t ∧ t ≤ 8
  · rw [one_c h2.1 h2.2]
    have g := out_good t d hc
    refine ⟨g.ok, ?_, g.err⟩
    rcases g.told with h | ⟨m, h, _⟩
    · exact .inl h
    · exact .inr ⟨m, h, out_short t d hc m (by rw [h]; simp)⟩
  by_cases h3 : t = 9 ∨ t = 10
  · rw [one_j h3]; exact fine_tell hc (J1.out_len t d h3)
  rw [one_o (by omega)]; exact ⟨hc, .inr ⟨_, rfl, sml_op t d⟩, fun k => absurd rfl k⟩

/-- TLVs, one by one, from what is known and told. -/
noncomputable def foldI : List T → Kx → List M → List M × Kx × Int × Int
  | [], c, o => (o, c, 0, 0)
  | x :: l, c, o => if (one c x.2.2 x.2.1).2.2 = 0 then foldI l (one c x.2.2 x.2.1).1 (o ++ (one c x.2.2 x.2.1).2.1) else ([], Kx.zero, x.1, (one c x.2.2 x.2.1).2.2)
theorem fold_nil (c : Kx) (o : List M) : foldI [] c o = (o, c, 0, 0) := rfl
theorem fold_ok {x : T} {l : List T} {c c' : Kx} {o r : List M} (h : one c x.2.2 x.2.1 = (c', r, 0)) : foldI (x :: l) c o = foldI l c' (o ++ r) := by
  show (if _ then _ else _) = _
  rw [h, if_pos rfl]
theorem fold_err {x : T} {l : List T} {c : Kx} {o : List M} (h : ¬ (one c x.2.2 x.2.1).2.2 = 0) : foldI (x :: l) c o = ([], Kx.zero, x.1, (one c x.2.2 x.2.1).2.2) := by
  show (if _ then _ else _) = _
  rw [if_neg h]
/-- In two parts: the first one's, then the second one's. -/
theorem fold_app : ∀ (a b : List T) (c : Kx) (o : List M), foldI (a ++ b) c o = if (foldI a c o).2.2.2 = 0 then foldI b (foldI a c o).2.1 (foldI a c o).1 else foldI a c o
  | [], b, c, o => by rw [List.nil_append, fold_nil, if_pos rfl]
  | x :: a, b, c, o => by
      rw [List.cons_append]
      by_cases h : (one c x.2.2 x.2.1).2.2 = 0
      · rcases hp : one c x.2.2 x.2.1 with ⟨c', r, e⟩
        rw [hp] at h
        obtain rfl : e = 0 := h
        rw [fold_ok hp, fold_ok hp]; exact fold_app a b _ _
      · rw [fold_err h, fold_err h, if_neg h]
end Go.Proofs.YtfegdblaohhdoaaGreatDoor.I1
namespace Go.Proofs.YtfegdblaohhdoaaGreatDoor.L1
open Go.ChangeShapes Go.WideShapes Go.ChangeAt Go.RowKit
open Go.Proofs.YtfegdblaohhdoaaGreatDoor.Ms
open Go.Proofs.YtfegdblaohhdoaaGreatDoor.S1 (okS outS putS put_out putS_le outS_yes)
open Go.Proofs.YtfegdblaohhdoaaGreatDoor.Lk
open Go.Proofs.YtfegdblaohhdoaaGreatDoor.G1 (outF okF typF datF)
open Go.Proofs.YtfegdblaohhdoaaGreatDoor.J1
open Go.Proofs.YtfegdblaohhdoaaGreatDoor.K1
open Go.Proofs.YtfegdblaohhdoaaGreatDoor.I1
open Go.Proofs.YtfegdblaohhdoaaGreatDoor.Oct (fitsB)
open Go.Proofs.YtfegdblaohhdoaaGreatDoor.Own (k11 k14 ownM isKind fieldsOf)
open Go.Proofs.YtfegdblaohhdoaaGreatDoor.F1 (T okT okT_nil okT_snoc encT enc1 ok1 outT placed bt bt_nn bt_lt encT_cons encT_nil enc1_len okT_append)
open Go.Proofs.YtfegdblaohhdoaaGreatDoor.Nu
set_option linter.unusedVariables false
set_option maxRecDepth 100000
set_option maxRecDepth 100000

/-- A message as it comes back. -/
def canM (m : M) : M := { ownM m with sa := none, sc := 0 }
theorem is_14 {m : M} (h : m.kind = 14) : isKind m = true ∧ ownM m = { k14 m with kind := m.kind } := by
  have hi : isKind m = true := by simp [isKind, h]
  exact ⟨hi, by simp [ownM, hi, fieldsOf, h]⟩
theorem can_11 {m : M} (h : m.kind = 11) : canM m = { M.zero with kind := 11, ae := m.ae, pfx := m.pfx, plen := m.plen, interval := m.interval, seq := m.seq, metric := m.metric, id := m.id, next := m.next, sl := m.sl } := by
  unfold canM; rw [(is_11 h).2, h]; rfl
theorem can_14 {m : M} (h : m.kind = 14) : canM m = opM m.typ m.data := by
  unfold canM; rw [(is_14 h).2, h]; rfl
/-- An Update, part by part. -/
structure Oku (m : M) : Prop where
  kind : m.kind = 11
  bare : bare m = true
  subs : okS m.sl = true
  pfx : inB m.ae m.pfx m.plen = true
  iv : fitsB m.interval 2 = true
  seq : fitsB m.seq 2 = true
  metric : fitsB m.metric 2 = true
  way : wayB m = true
theorem oku_iff (m : M) : okU m = true ↔ Oku m := by
  unfold okU
  simp only [Bool.and_eq_true, decide_eq_true_eq]
  exact ⟨fun h => ⟨h.1, h.2.1, h.2.2.1, h.2.2.2.1, h.2.2.2.2.1, h.2.2.2.2.2.1, h.2.2.2.2.2.2.1, h.2.2.2.2.2.2.2⟩, fun h => ⟨h.1, h.2, h.3, h.4, h.5, h.6, h.7, h.8⟩⟩
theorem empty_of {a : ByteArray} (h : a.size = 0) : a = ByteArray.empty := ByteArray.ext (Array.eq_empty_of_size_eq_zero h)
/-- What an Update's way says. -/
theorem way_far {m : M} (h : wayB m = true) (hm : m.metric = 65535) : m.id = ByteArray.empty ∧ m.next = ByteArray.empty := by
  unfold wayB at h
  rw [if_pos hm, Bool.and_eq_true, em_size, em_size] at h
  exact ⟨empty_of h.1, empty_of h.2⟩
theorem way_near {m : M} (h : wayB m = true) (hm : ¬ m.metric = 65535) : ¬ m.ae = 0 ∧ m.id.size = 8 ∧ (m.next.size = 0 ∨ famA m.next = fam m.ae) := by
  unfold wayB at h
  rw [if_neg hm] at h
  simp only [Bool.and_eq_true, Bool.or_eq_true, Bool.not_eq_true', decide_eq_false_iff_not, decide_eq_true_eq, em_size] at h
  exact h

/-- An Update's fields and prefix, but for its first n bytes. -/
def flB (m : M) : Int := if m.ae = 0 then 0 else 128
def updL (m : M) (n : Nat) : List UInt8 :=
  layN m.ae 1 ++ (layN (flB m) 1 ++ (layN m.plen 1 ++ (layN (n : Int) 1 ++ (layN m.interval 2 ++ (layN m.seq 2 ++ (layN m.metric 2 ++ ((cutP m.ae m.pfx m.plen).data.toList.drop n ++ (putS m.sl).data.toList)))))))
def updD (m : M) (n : Nat) : ByteArray := ⟨(updL m n).toArray⟩
theorem two_bytes {v : Int} (h : fitsB v 2 = true) : ∃ s0 s1, layN v 2 = [s0, s1] := by
  have := lay_len h
  match layN v 2, this with
  | [a, b], _ => exact ⟨a, b, rfl⟩
theorem upd_size {m : M} {n : Nat} (h : okU m = true) (hn : n ≤ countN m.ae m.plen) : (updD m n).size = 10 + (countN m.ae m.plen - n) + (putS m.sl).size ∧ (updD m n).size ≤ 226 := by
  have o := (oku_iff m).1 h
  obtain ⟨a0, a1, p0, p1⟩ := len_range (in_cases o.pfx).1
  have hc := count_le (in_cases o.pfx).1
  have hz := cut_size o.pfx
  have hs := putS_le m.sl
  have l1 := fun (v : Int) (h0 : 0 ≤ v) (h1 : v < 256) => lay_one h0 h1
  obtain ⟨ca, ha, _⟩ := l1 m.ae a0 (by omega)
  obtain ⟨cf, hf, _⟩ := l1 (flB m) (by unfold flB; split <;> omega) (by unfold flB; split <;> omega)
  obtain ⟨cp, hp, _⟩ := l1 m.plen p0 (by omega)
  obtain ⟨cn, hn1, _⟩ := l1 (n : Int) (by omega) (by omega)
  have e : (updD m n).size = 10 + (countN m.ae m.plen - n) + (putS m.sl).size := by
    show (updL m n).toArray.size = _
    unfold updL
    rw [ha, hf, hp, hn1, List.size_toArray]
    simp only [List.length_append, lay_len o.iv, lay_len o.seq, lay_len o.metric, List.length_drop, List.length_cons, List.length_nil, J1.size_list, hz]
    omega
  exact ⟨e, by rw [e]; omega⟩
/-- What Take tells of it. -/
def updU (m : M) (n : Nat) : Up := { Up.zero with ae := m.ae, flags := flB m, plen := m.plen, om := (n : Int), iv := m.interval, seq := m.seq, metric := m.metric, hav := 1, bytes := ⟨((cutP m.ae m.pfx m.plen).data.toList.drop n).toArray⟩, sl := m.sl }
theorem upd_out {m : M} {n : Nat} (h : okU m = true) (hn : n ≤ countN m.ae m.plen) : outK (updD m n) = (updU m n, true, 0) := by
  have o := (oku_iff m).1 h
  have hlen := (in_cases o.pfx).1
  obtain ⟨a0, a1, p0, p1⟩ := len_range hlen
  have hc := count_le hlen
  have hz := cut_size o.pfx
  have hsz := (upd_size h hn).1
  have hl : (updD m n).data.toList = updL m n := rfl
  obtain ⟨ca, ha, hca⟩ := lay_one (v := m.ae) a0 (by omega)
  obtain ⟨cf, hf, hcf⟩ := lay_one (v := flB m) (by unfold flB; split <;> omega) (by unfold flB; split <;> omega)
  obtain ⟨cp, hp, hcp⟩ := lay_one (v := m.plen) p0 (by omega)
  obtain ⟨cn, hn1, hcn⟩ := lay_one (v := (n : Int)) (by omega) (by omega)
  obtain ⟨i0, i1, hi⟩ := two_bytes o.iv
  obtain ⟨s0, s1, hs⟩ := two_bytes o.seq
  obtain ⟨m0, m1, hm⟩ := two_bytes o.metric
  have e : (updD m n).data.toList = ca :: cf :: cp :: cn :: i0 :: i1 :: s0 :: s1 :: m0 :: m1 :: ((cutP m.ae m.pfx m.plen).data.toList.drop n ++ (putS m.sl).data.toList) := by
    rw [hl]; unfold updL; rw [ha, hf, hp, hn1, hi, hs, hm]; rfl
  generalize updD m n = d at *
  have b0 : bt d 0 = m.ae := by rw [at_0 e]; exact hca
  have b1 : bt d 1 = flB m := by rw [at_1 e]; exact hcf
  have b2 : bt d 2 = m.plen := by rw [at_2 e]; exact hcp
  have b3 : bt d 3 = n := by rw [at_3 e]; exact hcn
  have n4 : num2 d 4 = m.interval := num2_of (by rw [e, hi]; rfl) o.iv
  have n6 : num2 d 6 = m.seq := num2_of (by rw [e, hs]; rfl) o.seq
  have n8 : num2 d 8 = m.metric := num2_of (by rw [e, hm]; rfl) o.metric
  have hr : restN 10 m.ae m.plen (n : Int) = 10 + (countN m.ae m.plen - n) := by unfold restN; rw [Int.toNat_natCast]
  have hdl : ((cutP m.ae m.pfx m.plen).data.toList.drop n).length = countN m.ae m.plen - n := by rw [List.length_drop, J1.size_list, hz]
  have e1 : d.extract (restN 10 m.ae m.plen (n : Int)) d.size = putS m.sl := text_eq (by
    rw [J1.ext_to, hr, e, ← List.drop_drop]
    show List.drop (countN m.ae m.plen - n) ((cutP m.ae m.pfx m.plen).data.toList.drop n ++ (putS m.sl).data.toList) = _
    rw [← hdl]
    exact List.drop_left ..)
  have e2 : d.extract 10 (restN 10 m.ae m.plen (n : Int)) = ⟨((cutP m.ae m.pfx m.plen).data.toList.drop n).toArray⟩ := text_eq (by
    rw [ext_list, hr, e, Nat.add_sub_cancel_left]
    show List.take (countN m.ae m.plen - n) ((cutP m.ae m.pfx m.plen).data.toList.drop n ++ (putS m.sl).data.toList) = _
    rw [← hdl]
    simp)
  have hend := end_yes (s := d) (z := 10) (ae := m.ae) (p := m.plen) (om := (n : Int)) (l := m.sl) (b := true) (by omega) (by omega) hlen (by omega) (by rw [hr]; omega) (by rw [e1]; exact put_out o.subs)
  rw [e2] at hend
  rw [outK_yes (x := ⟨⟨((cutP m.ae m.pfx m.plen).data.toList.drop n).toArray⟩, m.sl, true⟩) (by rw [b0, b2, b3]; exact hend)]
  unfold hdK updU
  rw [b0, b1, b2, b3, n4, n6, n8]
  rfl
/-- What is known behind an Update. -/
def knowP (c : Kx) (m : M) : Kx := if m.ae = 0 then c else c.setP m.ae m.pfx
/-- An Update's TLV tells it, where its way is known, and what stands ahead of its prefix is the default prefix's. -/
theorem upd_one {c : Kx} {m : M} {n : Nat} (h : okU m = true) (hn : n ≤ countN m.ae m.plen) (hd : ((c.pf m.ae).data.toList.drop (baseN m.ae)).take n = (cutP m.ae m.pfx m.plen).data.toList.take n) (h0 : 0 < n → ¬ (c.pf m.ae).size = 0)
    (hw : ¬ m.metric = 65535 → c.id = m.id ∧ c.nx (fam m.ae) = m.next) : one c 8 (updD m n) = (knowP c m, [canM m], 0) := by
  have o := (oku_iff m).1 h
  rw [one_c (by omega) (by omega), show outC c 8 (updD m n) = out8 c (updD m n) from rfl, out8_yes (upd_out h hn), stU_yes (fun x => h0 (by have := x.1; simp only [updU] at this; omega) x.2)]
  have ha : adrC c (updU m n) = m.pfx := by
    unfold adrC omL
    show wholeP m.ae ⟨((((c.pf m.ae).data.toList.drop (baseN m.ae)).take (n : Int).toNat) ++ ((cutP m.ae m.pfx m.plen).data.toList.drop n)).toArray⟩ m.plen = m.pfx
    rw [Int.toNat_natCast, hd, List.take_append_drop]
    exact whole_cut o.pfx
  have hf : flagC c (updU m n) m.pfx = knowP c m := by
    unfold flagC knowP
    show (if m.ae = 0 then c else if flB m / 64 % 2 = 1 then _ else if 128 ≤ flB m then c.setP m.ae m.pfx else c) = _
    by_cases h0 : m.ae = 0
    · rw [if_pos h0, if_pos h0]
    · rw [if_neg h0, if_neg h0, show flB m = 128 from if_neg h0, if_neg (by decide), if_pos (by decide)]
  have hid : (knowP c m).id = c.id ∧ (knowP c m).nx (fam m.ae) = c.nx (fam m.ae) := by
    unfold knowP
    split
    · exact ⟨rfl, rfl⟩
    · unfold Kx.setP Kx.nx
      constructor <;> (repeat' split) <;> rfl
  have ht : tellB (knowP c m) (updU m n) = true := by
    unfold tellB
    show (!decide ((1 : Int) = 0) && (decide (m.metric = 65535) || (!decide (m.ae = 0) && !emB (knowP c m).id))) = true
    by_cases hm : m.metric = 65535
    · rw [decide_eq_true hm]; rfl
    · obtain ⟨w1, w2, _⟩ := way_near o.way hm
      rw [decide_eq_false w1, show emB (knowP c m).id = false by rw [hid.1, (hw hm).1]; unfold emB; rw [decide_eq_false (by omega)]]
      simp
  rw [ha, hf, if_pos ht, can_11 o.kind]
  have hu : updM (knowP c m) (updU m n) m.pfx = { M.zero with kind := 11, ae := m.ae, pfx := m.pfx, plen := m.plen, interval := m.interval, seq := m.seq, metric := m.metric, id := m.id, next := m.next, sl := m.sl } := by
    unfold updM
    show ({ M.zero with kind := 11, ae := m.ae, pfx := m.pfx, plen := m.plen, interval := m.interval, seq := m.seq, metric := m.metric, sl := m.sl, id := if m.metric = 65535 then ByteArray.empty else (knowP c m).id, next := if m.metric = 65535 then ByteArray.empty else (knowP c m).nx (fam m.ae) } : M) = _
    by_cases hm : m.metric = 65535
    · obtain ⟨w1, w2⟩ := way_far o.way hm
      rw [if_pos hm, if_pos hm, w1, w2]
    · rw [if_neg hm, if_neg hm, hid.1, hid.2, (hw hm).1, (hw hm).2]
  rw [hu]

/-- A router-id's TLV. -/
def idD (a : ByteArray) : ByteArray := ⟨(0 :: 0 :: a.data.toList).toArray⟩
theorem no_subs : outS ⟨#[]⟩ = ([], true, 0) := by rw [outS_yes (l := []) okT_nil rfl (by decide)]; rfl
theorem id_one {c : Kx} {a : ByteArray} (h : a.size = 8) : one c 6 (idD a) = ({ c with id := a }, [], 0) := by
  have hz : (idD a).size = 10 := by show (0 :: 0 :: a.data.toList).toArray.size = 10; simp; omega
  rw [one_c (by omega) (by omega)]
  show out6 c (idD a) = _
  have hf : fixO (idD a) 10 = (true, 0) := by
    rw [fix_long (by omega)]
    have : (idD a).extract 10 (idD a).size = ⟨#[]⟩ := text_eq (by rw [J1.ext_to, List.drop_of_length_le (by rw [J1.size_list]; omega)])
    rw [this, no_subs]
  have he : (idD a).extract 2 10 = a := text_eq (by
    rw [ext_list]
    show List.take 8 a.data.toList = _
    exact List.take_of_length_le (by rw [J1.size_list]; omega))
  unfold out6
  rw [hf, if_pos ⟨rfl, rfl⟩, he]
/-- A next hop's TLV. -/
def hopE (a : ByteArray) : Int := if a.size = 4 then 1 else if link a = true then 3 else 2
def hopS (a : ByteArray) : ByteArray := if a.size = 4 then a else if link a = true then shA a else a
def hopD (a : ByteArray) : ByteArray := ⟨(layN (hopE a) 1 ++ (0 :: (hopS a).data.toList)).toArray⟩
theorem hop_cases {a : ByteArray} (h : a.size = 4 ∨ a.size = 16) : 1 ≤ hopE a ∧ hopE a ≤ 3 ∧ (hopS a).size = sizeA (hopE a) ∧ fam (hopE a) = famA a ∧ (if hopE a = 3 then lgA (hopS a) else hopS a) = a := by
  unfold hopE hopS
  by_cases h4 : a.size = 4
  · rw [if_pos h4, if_pos h4]
    exact ⟨by omega, by omega, by rw [h4]; rfl, by unfold famA; rw [if_pos h4]; rfl, by rw [if_neg (by decide)]⟩
  have h16 : a.size = 16 := by omega
  by_cases hl : link a = true
  · rw [if_neg h4, if_neg h4, if_pos hl, if_pos hl]
    exact ⟨by omega, by omega, by rw [sh_size hl]; rfl, by unfold famA; rw [if_neg h4, if_pos h16]; rfl, by rw [if_pos rfl]; exact lg_sh hl⟩
  · rw [if_neg h4, if_neg h4, if_neg hl, if_neg hl]
    exact ⟨by omega, by omega, by rw [h16]; rfl, by unfold famA; rw [if_neg h4, if_pos h16]; rfl, by rw [if_neg (by decide)]⟩
theorem hop_size {a : ByteArray} (h : a.size = 4 ∨ a.size = 16) : (hopD a).size = 2 + sizeA (hopE a) ∧ (hopD a).size ≤ 18 := by
  obtain ⟨h1, h3, hs, _, _⟩ := hop_cases h
  obtain ⟨ca, ha, _⟩ := lay_one (v := hopE a) (by omega) (by omega)
  have e : (hopD a).size = 2 + sizeA (hopE a) := by
    show (layN (hopE a) 1 ++ (0 :: (hopS a).data.toList)).toArray.size = _
    rw [ha]; simp; omega
  refine ⟨e, ?_⟩
  rw [e]; unfold sizeA; split <;> (try split) <;> (try split) <;> omega
theorem hop_one {c : Kx} {a : ByteArray} (h : a.size = 4 ∨ a.size = 16) : one c 7 (hopD a) = (c.setN (famA a) a, [], 0) := by
  obtain ⟨h1, h3, hs, hf, ha⟩ := hop_cases h
  have hz := (hop_size h).1
  obtain ⟨ca, hla, hca⟩ := lay_one (v := hopE a) (by omega) (by omega)
  have e : (hopD a).data.toList = ca :: 0 :: (hopS a).data.toList := by
    show layN (hopE a) 1 ++ (0 :: (hopS a).data.toList) = _
    rw [hla]; rfl
  rw [one_c (by omega) (by omega)]
  show out7 c (hopD a) = _
  have b0 : bt (hopD a) 0 = hopE a := by rw [at_0 e]; exact hca
  have hfx : fixO (hopD a) (2 + sizeA (hopE a)) = (true, 0) := by
    rw [fix_long (by omega)]
    have : (hopD a).extract (2 + sizeA (hopE a)) (hopD a).size = ⟨#[]⟩ := text_eq (by rw [J1.ext_to, List.drop_of_length_le (by rw [J1.size_list]; omega)])
    rw [this, no_subs]
  have he : (hopD a).extract 2 (2 + sizeA (hopE a)) = hopS a := text_eq (by
    rw [ext_list, e, Nat.add_sub_cancel_left]
    show List.take (sizeA (hopE a)) (hopS a).data.toList = _
    exact List.take_of_length_le (by rw [J1.size_list]; omega))
  unfold out7
  rw [b0, if_neg (by omega), if_neg (by omega), hfx, if_pos ⟨rfl, rfl⟩, hf]
  unfold hopA
  rw [he, ha]
end Go.Proofs.YtfegdblaohhdoaaGreatDoor.L1
namespace Go.Proofs.YtfegdblaohhdoaaGreatDoor.Ld
open Go.ChangeShapes Go.WideShapes Go.ChangeAt Go.RowKit
open Go.Proofs.YtfegdblaohhdoaaGreatDoor.Bits
open Go.Proofs.YtfegdblaohhdoaaGreatDoor.Pre
set_option linter.unusedVariables false
set_option maxRecDepth 100000
set_option maxRecDepth 100000
theorem lead_le (a b : ByteArray) : leadN a b ≤ a.size ∧ leadN a b ≤ b.size := by
  have h := alike_le a.data.toList b.data.toList
  rw [len_list, len_list] at h
  unfold leadN
  omega

/-- the bytes ahead are the same -/
theorem lead_same (a b : ByteArray) : a.extract 0 (leadN a b) = b.extract 0 (leadN a b) := by
  obtain ⟨h1, h2⟩ := lead_le a b
  apply bytes_inj
  rw [head_list, head_list]
  apply list_ext
  · rw [List.length_take, List.length_take, len_list, len_list]; omega
  · intro i hi
    rw [List.length_take, len_list] at hi
    have e : ∀ l : List UInt8, i / 8 < leadN a b → bitL (l.take (leadN a b)) i = bitL l i := by
      intro l h
      unfold bitL
      simp [List.getD, List.getElem?_take_of_lt h]
    rw [e _ (by omega), e _ (by omega)]
    exact alike_below _ _ i (by unfold leadN at hi; omega)

end Go.Proofs.YtfegdblaohhdoaaGreatDoor.Ld
namespace Go.Proofs.YtfegdblaohhdoaaGreatDoor.L2
open Go.ChangeShapes Go.WideShapes Go.ChangeAt Go.RowKit
open Go.Proofs.YtfegdblaohhdoaaGreatDoor.Ms
open Go.Proofs.YtfegdblaohhdoaaGreatDoor.S1 (okS outS putS)
open Go.Proofs.YtfegdblaohhdoaaGreatDoor.G1 (outF okF typF datF)
open Go.Proofs.YtfegdblaohhdoaaGreatDoor.J1
open Go.Proofs.YtfegdblaohhdoaaGreatDoor.K1
open Go.Proofs.YtfegdblaohhdoaaGreatDoor.I1
open Go.Proofs.YtfegdblaohhdoaaGreatDoor.L1
open Go.Proofs.YtfegdblaohhdoaaGreatDoor.Pre (leadN leastN)
open Go.Proofs.YtfegdblaohhdoaaGreatDoor.Own (ownM)
open Go.Proofs.YtfegdblaohhdoaaGreatDoor.F1 (T okT okT_nil okT_snoc encT enc1 ok1 outT placed encT_cons encT_nil enc1_len okT_append placed_append)
open Go.Proofs.YtfegdblaohhdoaaGreatDoor.Nu
set_option linter.unusedVariables false
set_option maxRecDepth 100000
set_option maxRecDepth 100000

def okO (m : M) : Bool := decide (m.kind = 14) && (bare m && (decide (11 ≤ m.typ) && (decide (m.typ ≤ 255) && decide (m.data.size ≤ 255))))
/-- May it be a message of Babel? -/
def okL (m : M) : Bool := okF m || (okJ m || (okU m || okO m))
theorem kind_F {m : M} (h : okF m = true) : 7 ≤ m.kind ∧ m.kind ≤ 10 := by
  rcases G1.kind_cases ((G1.ok_iff m).1 h).kind with k | k | ⟨k, _⟩ | ⟨k, _⟩ <;> omega
theorem kind_J {m : M} (h : okJ m = true) : m.kind = 12 ∨ m.kind = 13 := by
  rcases J1.kind_cases ((J1.ok_iff m).1 h).kind with k | ⟨k, _⟩ <;> omega
theorem o_parts {m : M} (h : okO m = true) : m.kind = 14 ∧ bare m = true ∧ 11 ≤ m.typ ∧ m.typ ≤ 255 ∧ m.data.size ≤ 255 := by
  unfold okO at h
  simpa only [Bool.and_eq_true, decide_eq_true_eq] using h
theorem ok_u {m : M} (h : okL m = true) (k : m.kind = 11) : okU m = true := by
  unfold okL at h
  simp only [Bool.or_eq_true] at h
  rcases h with h | h | h | h
  · have := kind_F h; omega
  · have := kind_J h; omega
  · exact h
  · have := (o_parts h).1; omega
theorem ok_not {m : M} (h : okL m = true) (k : ¬ m.kind = 11) : okF m = true ∨ (okF m = false ∧ okJ m = true) ∨ (okF m = false ∧ okJ m = false ∧ okO m = true) := by
  unfold okL at h
  simp only [Bool.or_eq_true] at h
  rcases h with h | h | h | h
  · exact .inl h
  · refine .inr (.inl ⟨?_, h⟩)
    rcases hF : okF m with _ | _
    · rfl
    · have := kind_F hF; have := kind_J h; omega
  · exact absurd ((oku_iff m).1 h).kind k
  · have k14 := (o_parts h).1
    refine .inr (.inr ⟨?_, ?_, h⟩)
    · rcases hF : okF m with _ | _
      · rfl
      · have := kind_F hF; omega
    · rcases hJ : okJ m with _ | _
      · rfl
      · have := kind_J hJ; omega
/-- The TLV of a message that is no Update. -/
def othE (m : M) : F1.El := if okF m = true then (datF m, typF m) else if okJ m = true then (datJ m, typJ m) else (m.data, m.typ)
theorem oth_one {m : M} (h : okL m = true) (k : ¬ m.kind = 11) (c : Kx) : one c (othE m).2 (othE m).1 = (c, [canM m], 0) ∧ ok1 (othE m) ∧ ¬ (othE m).2 = 0 := by
  unfold othE
  rcases ok_not h k with hF | ⟨nF, hJ⟩ | ⟨nF, nJ, hO⟩
  · rw [if_pos hF]
    have hl := G1.fld_len hF
    refine ⟨?_, (G1.putF_ok hF).2, by show ¬ typF m = 0; omega⟩
    rw [one_f hl.2.1 hl.2.2, G1.put_back hF]
    rfl
  · rw [if_neg (by rw [nF]; decide), if_pos hJ]
    have hl := (J1.fld_len hJ).2
    refine ⟨?_, (J1.putJ_ok hJ).2, by show ¬ typJ m = 0; omega⟩
    rw [one_j hl, J1.put_back hJ]
    rfl
  · rw [if_neg (by rw [nF]; decide), if_neg (by rw [nJ]; decide)]
    obtain ⟨o1, o2, o3, o4, o5⟩ := o_parts hO
    refine ⟨?_, ⟨by show 0 ≤ m.typ; omega, o4, o5, fun h0 => absurd h0 (by show ¬ m.typ = 0; omega)⟩, by show ¬ m.typ = 0; omega⟩
    rw [one_o (.inr (by show 10 < m.typ; omega)), can_14 o1]
/-- It comes back the same. -/
theorem can_same {m : M} (h : okL m = true) : M.same m (canM m) = true ∧ (canM m).la = none ∧ (canM m).ll = [] ∧ (canM m).lc = 0 ∧ (canM m).sl = m.sl := by
  by_cases k : m.kind = 11
  · have o := (oku_iff m).1 (ok_u h k)
    have h1 : M.same m (ownM m) = true := by have := o.bare; unfold bare at this; simp at this; exact this.2
    rw [can_11 k]
    refine ⟨?_, rfl, rfl, rfl, rfl⟩
    rw [(is_11 k).2, k] at h1
    exact h1
  rcases ok_not h k with hF | ⟨_, hJ⟩ | ⟨_, _, hO⟩
  · exact G1.own_same hF
  · exact J1.own_same hJ
  · obtain ⟨o1, o2, _⟩ := o_parts hO
    have h1 : M.same m (ownM m) = true := by have := o2; unfold bare at this; simp at this; exact this.2
    rw [can_14 o1]
    have h2 := h1
    rw [(is_14 o1).2, o1] at h2
    have hs : m.sl = [] := by
      unfold M.same at h2
      simp only [Bool.and_eq_true, decide_eq_true_eq] at h2
      exact h2.2.2
    exact ⟨h2, rfl, rfl, rfl, by rw [hs]; rfl⟩

/-- How many bytes of an Update's prefix are left out. -/
def omN (c : Kx) (m : M) : Nat := if m.ae = 0 ∨ (c.pf m.ae).size = 0 then 0 else leadN ⟨((c.pf m.ae).data.toList.drop (baseN m.ae)).toArray⟩ (cutP m.ae m.pfx m.plen)
theorem om_le {c : Kx} {m : M} (h : okU m = true) : omN c m ≤ countN m.ae m.plen ∧ (0 < omN c m → ¬ (c.pf m.ae).size = 0 ∧ ¬ m.ae = 0) ∧ ((c.pf m.ae).data.toList.drop (baseN m.ae)).take (omN c m) = (cutP m.ae m.pfx m.plen).data.toList.take (omN c m) := by
  have hz := cut_size ((oku_iff m).1 h).pfx
  unfold omN
  by_cases h0 : m.ae = 0 ∨ (c.pf m.ae).size = 0
  · rw [if_pos h0]
    exact ⟨Nat.zero_le _, fun h => absurd h (Nat.lt_irrefl 0), rfl⟩
  · rw [if_neg h0]
    refine ⟨?_, fun _ => ⟨fun k => h0 (.inr k), fun k => h0 (.inl k)⟩, ?_⟩
    · rw [← hz]; exact (Ld.lead_le _ _).2
    · have := congrArg (fun b : ByteArray => b.data.toList) (Ld.lead_same ⟨((c.pf m.ae).data.toList.drop (baseN m.ae)).toArray⟩ (cutP m.ae m.pfx m.plen))
      simp only [ext_list, List.drop_zero, Nat.sub_zero] at this
      exact this
/-- The TLVs ahead of an Update, what is known behind them. -/
def wayE (c : Kx) (m : M) : List F1.El := if m.metric = 65535 then [] else (if m.id = c.id then [] else [(idD m.id, 6)]) ++ (if m.next = c.nx (fam m.ae) then [] else [(hopD m.next, 7)])
def wayC (c : Kx) (m : M) : Kx := if m.metric = 65535 then c else ({ c with id := m.id } : Kx).setN (fam m.ae) m.next
/-- A next hop is known, and the message says none. -/
def badC (c : Kx) (m : M) : Bool := decide (m.kind = 11) && (!decide (m.metric = 65535) && (decide (m.next.size = 0) && !decide ((c.nx (fam m.ae)).size = 0)))
def elsL (c : Kx) (m : M) : List F1.El := if m.kind = 11 then wayE c m ++ [(updD m (omN c m), 8)] else [othE m]
def ctxL (c : Kx) (m : M) : Kx := if m.kind = 11 then knowP (wayC c m) m else c
theorem set_same {c : Kx} {ae : Int} {a : ByteArray} (h : a = c.nx (fam ae)) : c.setN (fam ae) a = c := by
  subst h
  unfold Kx.setN Kx.nx
  split <;> rfl
theorem near_next {c : Kx} {m : M} (h : okU m = true) (hm : ¬ m.metric = 65535) (hb : badC c m = false) : m.next = c.nx (fam m.ae) ∨ ((m.next.size = 4 ∨ m.next.size = 16) ∧ famA m.next = fam m.ae) := by
  have o := (oku_iff m).1 h
  obtain ⟨w1, _, w3⟩ := way_near o.way hm
  obtain ⟨a0, a1, _, _⟩ := len_range (in_cases o.pfx).1
  by_cases hz : m.next.size = 0
  · left
    unfold badC at hb
    rw [decide_eq_true o.kind, decide_eq_false hm, decide_eq_true hz] at hb
    simp only [Bool.not_false, Bool.true_and, Bool.not_eq_false', decide_eq_true_eq] at hb
    rw [empty_of hz, empty_of hb]
  · have hf : famA m.next = fam m.ae := by rcases w3 with k | k; exact absurd k hz; exact k
    have h0 : ¬ fam m.ae = -1 := by
      unfold fam
      rcases (show m.ae = 1 ∨ m.ae = 2 ∨ m.ae = 3 by omega) with k | k | k <;> rw [k] <;> decide
    refine .inr ⟨?_, hf⟩
    unfold famA at hf
    by_cases h4 : m.next.size = 4
    · exact .inl h4
    · by_cases h16 : m.next.size = 16
      · exact .inr h16
      · rw [if_neg h4, if_neg h16] at hf
        exact absurd hf.symm h0
theorem way_pf (c : Kx) (m : M) (ae : Int) : (wayC c m).pf ae = c.pf ae := by
  have hs : ∀ (x : Kx) (f : Int) (a : ByteArray), (x.setN f a).pf ae = x.pf ae := fun x f a => by unfold Kx.setN; split <;> rfl
  unfold wayC
  split
  · rfl
  · rw [hs]; rfl
theorem nx_set (c : Kx) (ae : Int) (a : ByteArray) : (c.setN (fam ae) a).nx (fam ae) = a := by
  unfold Kx.setN Kx.nx
  split
  · rfl
  · rfl
theorem way_know {c : Kx} {m : M} (hm : ¬ m.metric = 65535) : (wayC c m).id = m.id ∧ (wayC c m).nx (fam m.ae) = m.next := by
  unfold wayC
  rw [if_neg hm]
  refine ⟨?_, nx_set _ _ _⟩
  unfold Kx.setN
  split <;> rfl
theorem way_fold {c : Kx} {m : M} (h : okU m = true) (hb : badC c m = false) (p : Int) (o : List M) : foldI (placed p (wayE c m)) c o = (o, wayC c m, 0, 0) := by
  have ok := (oku_iff m).1 h
  unfold wayE wayC
  by_cases hm : m.metric = 65535
  · rw [if_pos hm, if_pos hm]; rfl
  rw [if_neg hm, if_neg hm]
  obtain ⟨w1, w2, w3⟩ := way_near ok.way hm
  have hn := near_next h hm hb
  have hid : ∀ p : Int, foldI (placed p (if m.id = c.id then [] else [(idD m.id, 6)])) c o = (o, { c with id := m.id }, 0, 0) := fun p => by
    by_cases hi : m.id = c.id
    · rw [if_pos hi, hi]; rfl
    · rw [if_neg hi]
      show foldI [(p, (idD m.id, 6))] c o = _
      rw [fold_ok (x := (p, (idD m.id, 6))) (id_one w2), List.append_nil]
      rfl
  have hnx : ∀ (p : Int) (c' : Kx), c'.nx (fam m.ae) = c.nx (fam m.ae) → foldI (placed p (if m.next = c.nx (fam m.ae) then [] else [(hopD m.next, 7)])) c' o = (o, c'.setN (fam m.ae) m.next, 0, 0) := fun p c' hc' => by
    by_cases hi : m.next = c.nx (fam m.ae)
    · rw [if_pos hi, set_same (by rw [hc']; exact hi)]; rfl
    · rw [if_neg hi]
      rcases hn with k | ⟨k, k2⟩
      · exact absurd k hi
      · show foldI [(p, (hopD m.next, 7))] c' o = _
        rw [fold_ok (x := (p, (hopD m.next, 7))) (hop_one k), List.append_nil, k2]
        rfl
  rw [placed_append, fold_app, hid, if_pos rfl]
  exact hnx _ _ rfl
/-- Taken where it is known, a message's TLVs tell it, and nothing else. -/
theorem put_fold {c : Kx} {m : M} (h : okL m = true) (hb : badC c m = false) (p : Int) (o : List M) : foldI (placed p (elsL c m)) c o = (o ++ [canM m], ctxL c m, 0, 0) := by
  unfold elsL ctxL
  by_cases k : m.kind = 11
  · rw [if_pos k, if_pos k]
    have hu := ok_u h k
    obtain ⟨o1, o2, o3⟩ := om_le (c := c) hu
    rw [placed_append, fold_app, way_fold hu hb, if_pos rfl]
    have h1 := upd_one (c := wayC c m) hu o1 (by rw [way_pf]; exact o3) (fun q => by rw [way_pf]; exact (o2 q).1) (fun hm => way_know hm)
    show foldI [(_, (updD m (omN c m), 8))] (wayC c m) o = _
    rw [fold_ok (x := (_, (updD m (omN c m), 8))) h1]
    rfl
  · rw [if_neg k, if_neg k]
    show foldI [(p, othE m)] c o = _
    rw [fold_ok (x := (p, othE m)) (oth_one h k c).1]
    rfl
theorem way_ok {c : Kx} {m : M} (hc : okC c = true) (h : okU m = true) (hb : badC c m = false) : okC (wayC c m) = true := by
  have ok := (oku_iff m).1 h
  have hk := (okc_iff c).1 hc
  obtain ⟨a0, a1, _, _⟩ := len_range (in_cases ok.pfx).1
  unfold wayC
  split
  · exact hc
  · rename_i hm
    obtain ⟨w1, w2, w3⟩ := way_near ok.way hm
    rw [okc_iff]
    rcases near_next h hm hb with e | ⟨e1, e2⟩
    · rw [set_same (c := { c with id := m.id }) (show m.next = ({ c with id := m.id } : Kx).nx (fam m.ae) from e)]
      exact hk.setI w2
    · refine (hk.setI w2).setN (by omega) a1 ?_
      unfold famA fam at e2
      rcases (show m.ae = 1 ∨ m.ae = 2 ∨ m.ae = 3 by omega) with q | q | q <;> rw [q] at e2 ⊢ <;> rcases e1 with e | e <;> rw [e] at e2 ⊢ <;> simp at e2 ⊢
theorem put_ok {c : Kx} {m : M} (hc : okC c = true) (h : okL m = true) (hb : badC c m = false) : okC (ctxL c m) = true := by
  unfold ctxL
  split
  · rename_i k
    have hu := ok_u h k
    have ok := (oku_iff m).1 hu
    obtain ⟨a0, a1, _, _⟩ := len_range (in_cases ok.pfx).1
    unfold knowP
    split
    · exact way_ok hc hu hb
    · rw [okc_iff]
      exact ((okc_iff _).1 (way_ok hc hu hb)).setP (by omega) a1 (in_adr ok.pfx)
  · exact hc
theorem id_ok {a : ByteArray} (h : a.size = 8) : ok1 (idD a, 6) ∧ (idD a).size = 10 := by
  have : (idD a).size = 10 := by show (0 :: 0 :: a.data.toList).toArray.size = 10; simp; omega
  exact ⟨⟨by show (0 : Int) ≤ 6; decide, by show (6 : Int) ≤ 255; decide, by show (idD a).size ≤ 255; omega, fun h => absurd h (by show ¬ (6 : Int) = 0; decide)⟩, this⟩
theorem hop_ok {a : ByteArray} (h : a.size = 4 ∨ a.size = 16) : ok1 (hopD a, 7) := by
  have := (L1.hop_size h).2
  exact ⟨by show (0 : Int) ≤ 7; decide, by show (7 : Int) ≤ 255; decide, by show (hopD a).size ≤ 255; omega, fun h => absurd h (by show ¬ (7 : Int) = 0; decide)⟩
theorem upd_ok1 {m : M} {n : Nat} (h : okU m = true) (hn : n ≤ countN m.ae m.plen) : ok1 (updD m n, 8) := by
  have := (upd_size h hn).2
  exact ⟨by show (0 : Int) ≤ 8; decide, by show (8 : Int) ≤ 255; decide, by show (updD m n).size ≤ 255; omega, fun h => absurd h (by show ¬ (8 : Int) = 0; decide)⟩
theorem okT_one {x : F1.El} (h : ok1 x) : okT [x] := fun y hy => by rw [List.mem_singleton] at hy; exact hy ▸ h
theorem els_ok {c : Kx} {m : M} (h : okL m = true) (hb : badC c m = false) : okT (elsL c m) := by
  unfold elsL
  by_cases k : m.kind = 11
  · rw [if_pos k]
    have hu := ok_u h k
    have ok := (oku_iff m).1 hu
    refine okT_append ?_ (okT_one (upd_ok1 hu (om_le hu).1))
    unfold wayE
    split
    · exact okT_nil
    · rename_i hm
      obtain ⟨w1, w2, w3⟩ := way_near ok.way hm
      refine okT_append ?_ ?_
      · split
        · exact okT_nil
        · exact okT_one (id_ok w2).1
      · split
        · exact okT_nil
        · rename_i hi
          rcases near_next hu hm hb with e | ⟨e1, _⟩
          · exact absurd e hi
          · exact okT_one (hop_ok e1)
  · rw [if_neg k]
    exact okT_one (oth_one h k c).2.1
/-- A message's bytes, what is known behind them, or why there are none. -/
def putL (c : Kx) (m : M) : ByteArray × Kx × Int := if okL m = true then (if badC c m = true then (ByteArray.empty, c, 9) else (⟨(encT (elsL c m)).toArray⟩, ctxL c m, 0)) else (ByteArray.empty, c, 1)
end Go.Proofs.YtfegdblaohhdoaaGreatDoor.L2
namespace Go.Proofs
open Go.Shelf
def Tryz.lays169_ren : Go.Shelf.Ren := ⟨fun | 169 => 48 | n => n, fun | 70 => 70 | 9 => 9 | 0 => 0 | 72 => 73 | 37 => 71 | 127 => 99 | 3 => 3 | 5 => 5 | n => n, fun | n => n⟩
theorem Tryz.lays169 : Go.Proofs.Lays.n169 Tryz.prog Tryz.lays169_ren := {
  mixed := by kernel_rfl
  f169 := Tryz.func48.trans (congrArg some (by kernel_rfl))
  t0 := Tryz.underlying0
  a0 := Tryz.isAgg0
  z0 := Tryz.sizeOf0
  v0 := Tryz.zeroValue0
  t3 := Tryz.underlying3
  a3 := Tryz.isAgg3
  z3 := Tryz.sizeOf3
  v3 := Tryz.zeroValue3
  t9 := Tryz.underlying9
  a9 := Tryz.isAgg9
  z9 := Tryz.sizeOf9
  v9 := Tryz.zeroValue9
  t37 := Tryz.underlying71
  a37 := Tryz.isAgg71
  z37 := Tryz.sizeOf71
  v37 := Tryz.zeroValue71
  t70 := Tryz.underlying70
  a70 := Tryz.isAgg70
  z70 := Tryz.sizeOf70
  v70 := Tryz.zeroValue70
  t72 := Tryz.underlying73
  a72 := Tryz.isAgg73
  z72 := Tryz.sizeOf73
  v72 := Tryz.zeroValue73
  t127 := Tryz.underlying99
  a127 := Tryz.isAgg99
  z127 := Tryz.sizeOf99
  v127 := Tryz.zeroValue99 }
theorem Tryz.Builder_Extra_169 : Builder.Extra Tryz.prog Tryz.lays169_ren := {
  sizeBuilder := by kernel_rfl
  liesBuilder := by kernel_rfl
  t5 := Tryz.underlying5
  a5 := Tryz.isAgg5
  z5 := Tryz.sizeOf5
  v5 := Tryz.zeroValue5
  infoByte := by kernel_rfl
  cellsByte := by kernel_rfl
  sizeByte := by kernel_rfl
  neB5 := by decide }
open Go.RowKit in
theorem Tryz.Builder_String_any (B b : Nat) (l : List UInt8) (w : World) (h : Lib.IsBuilder 73 5 B b (Lib.byteCells l) w) (hBw : B ≤ w.heap.size) :
    Calls Tryz.prog 48 #[.pointer (some ⟨b, 0, none⟩)] w fun e w' => e = .returned (.string ⟨l.toArray⟩) ∧ Below B w w' := Any.Builder_String_any Tryz.lays169 Tryz.Builder_Extra_169 B b l w h hBw
def Tryz.lays165_ren : Go.Shelf.Ren := ⟨fun | 165 => 46 | 240 => 87 | 241 => 88 | 276 => 121 | 277 => 122 | n => n, fun | 70 => 70 | 3 => 3 | 0 => 0 | 4 => 4 | 9 => 9 | 20 => 20 | 72 => 73 | 37 => 71 | 164 => 122 | 5 => 5 | n => n, fun | n => n⟩
theorem Tryz.lays165 : Go.Proofs.Lays.n165 Tryz.prog Tryz.lays165_ren := {
  mixed := by kernel_rfl
  f165 := Tryz.func46.trans (congrArg some (by kernel_rfl))
  f240 := Tryz.func87.trans (congrArg some (by kernel_rfl))
  f241 := Tryz.func88.trans (congrArg some (by kernel_rfl))
  f276 := Tryz.func121.trans (congrArg some (by kernel_rfl))
  f277 := Tryz.func122.trans (congrArg some (by kernel_rfl))
  t0 := Tryz.underlying0
  a0 := Tryz.isAgg0
  z0 := Tryz.sizeOf0
  v0 := Tryz.zeroValue0
  t3 := Tryz.underlying3
  a3 := Tryz.isAgg3
  z3 := Tryz.sizeOf3
  v3 := Tryz.zeroValue3
  t4 := Tryz.underlying4
  a4 := Tryz.isAgg4
  z4 := Tryz.sizeOf4
  v4 := Tryz.zeroValue4
  t9 := Tryz.underlying9
  a9 := Tryz.isAgg9
  z9 := Tryz.sizeOf9
  v9 := Tryz.zeroValue9
  t20 := Tryz.underlying20
  a20 := Tryz.isAgg20
  z20 := Tryz.sizeOf20
  v20 := Tryz.zeroValue20
  t37 := Tryz.underlying71
  a37 := Tryz.isAgg71
  z37 := Tryz.sizeOf71
  v37 := Tryz.zeroValue71
  t70 := Tryz.underlying70
  a70 := Tryz.isAgg70
  z70 := Tryz.sizeOf70
  v70 := Tryz.zeroValue70
  t72 := Tryz.underlying73
  a72 := Tryz.isAgg73
  z72 := Tryz.sizeOf73
  v72 := Tryz.zeroValue73
  t164 := Tryz.underlying122
  a164 := Tryz.isAgg122
  z164 := Tryz.sizeOf122
  v164 := Tryz.zeroValue122 }
theorem Tryz.Builder_Extra_165 : Builder.Extra Tryz.prog Tryz.lays165_ren := {
  sizeBuilder := by kernel_rfl
  liesBuilder := by kernel_rfl
  t5 := Tryz.underlying5
  a5 := Tryz.isAgg5
  z5 := Tryz.sizeOf5
  v5 := Tryz.zeroValue5
  infoByte := by kernel_rfl
  cellsByte := by kernel_rfl
  sizeByte := by kernel_rfl
  neB5 := by decide }
open Go.RowKit in
theorem Tryz.Builder_Grow_fresh (B b n : Nat) (w : World) (hB : B ≤ b) (hbk : w.heap[b]? = some (.cells #[.pointer none, .slice none 0 0] 73 (0, 0))) (hBw : B ≤ w.heap.size) (hn : n ≤ 281474976710656) :
    Calls Tryz.prog 46 #[.pointer (some ⟨b, 0, none⟩), .int .i64 n] w fun e w' => e = .returned (.tuple #[]) ∧ (Lib.BuilderAt 73 5 B b (.pointer (some ⟨b, 0, none⟩)) [] w' ∧ Below B w w') := Any.Builder_Grow_fresh Tryz.lays165 Tryz.Builder_Extra_165 B b n w hB hbk hBw hn

end Go.Proofs
