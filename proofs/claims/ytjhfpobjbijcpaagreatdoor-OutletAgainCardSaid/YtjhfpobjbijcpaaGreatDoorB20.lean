/-
  Whether a prefix is one in an encoding, whether a message may be, a prefix's bytes and the prefix of bytes: the program's answers and the document's. Conditions: the message's lists stand in the world, and aren't long; the variable has what it is laid with.
-/
import Derived.Test.YtjhfpobjbijcpaaGreatDoorB12
import Derived.Test.YtjhfpobjbijcpaaGreatDoorB17
import Derived.Test.YtjhfpobjbijcpaaGreatDoorB19
namespace Go.Proofs.YtjhfpobjbijcpaaGreatDoor.J2
open Go.ChangeShapes Go.WideShapes Go.ChangeAt Go.RowKit
open Go.Proofs.YtjhfpobjbijcpaaGreatDoor.Ms
open Go.Proofs.YtjhfpobjbijcpaaGreatDoor.Box
open Go.Proofs.YtjhfpobjbijcpaaGreatDoor.S1
open Go.Proofs.YtjhfpobjbijcpaaGreatDoor.Lk
open Go.Proofs.YtjhfpobjbijcpaaGreatDoor.Nu (text_eq)
open Go.Proofs.YtjhfpobjbijcpaaGreatDoor.J1
open Go.Proofs.YtjhfpobjbijcpaaGreatDoor.An
open Go.Proofs.YtjhfpobjbijcpaaGreatDoor.Tc
open Go.Proofs.YtjhfpobjbijcpaaGreatDoor.Oct (fitsB)
open Go.Proofs.YtjhfpobjbijcpaaGreatDoor.Bits (keepL keepL_length)
open Go.Proofs.YtjhfpobjbijcpaaGreatDoor.Pre (leastN cutL fillL fillL_length rightZ)
open Go.Proofs.YtjhfpobjbijcpaaGreatDoor.Hs
open Go.Proofs.YtjhfpobjbijcpaaGreatDoor.Or (st_yes)
set_option linter.unusedVariables false
set_option maxRecDepth 100000
set_option maxRecDepth 100000
theorem bool_eq {a b : Bool} (h : a = b) : Ending.returned (.bool a) = .returned (.bool b) := by rw [h]
theorem int_eq {a b : Int} (h : a = b) : Ending.returned (.int .i64 a) = .returned (.int .i64 b) := by rw [h]
theorem str_eq {a b : ByteArray} (h : a = b) : Ending.returned (.string a) = .returned (.string b) := by rw [h]
theorem pair_eq {s t : ByteArray} {b c : Bool} (h : s = t) (k : b = c) : Ending.returned (.tuple #[.string s, .bool b]) = .returned (.tuple #[.string t, .bool c]) := by rw [h, k]
theorem len_is (ae p : Int) : lenB ae p = (decide (0 ≤ ae) && (decide (ae ≤ 3) && (decide (minA ae ≤ p) && decide (p ≤ maxA ae)))) := rfl
theorem size_eq (a : ByteArray) (k : Nat) : ((a.size : Int) == (k : Int)) = decide (a.size = k) := by rw [Bool.eq_iff_iff]; simp; omega
theorem nil_eq (a : ByteArray) : (a.toList == ([] : List UInt8)) = decide (a.size = 0) := by
  rw [Bool.eq_iff_iff, beq_iff_eq, decide_eq_true_eq, ByteArray.toList_eq, ← size_list, List.length_eq_zero_iff]
theorem nil_em (a : ByteArray) : a.toList.isEmpty = decide (a.size = 0) := by rw [← nil_eq]; cases a.toList <;> rfl
theorem ae_any (n : Int) (w : World) : Calls Tryz.prog 143 #[.int .i64 n] w fun e w' => e = .returned (.bool (decide (0 ≤ n ∧ n ≤ 3))) ∧ w = w' := by
  by_cases h0 : 0 ≤ n
  rotate_left
  · rw [decide_eq_false (fun h => h0 h.1)]
    go_enter Tryz.func143, Tryz.ntmps143
    go_wp2
    go_ret
    exact ⟨rfl, rfl⟩
  by_cases h1 : n ≤ 3
  rotate_left
  · rw [decide_eq_false (fun h => h1 h.2)]
    go_enter Tryz.func143, Tryz.ntmps143
    go_wp2
    go_ret
    exact ⟨bool_eq (decide_eq_false (by omega)), rfl⟩
  rw [decide_eq_true ⟨h0, h1⟩]
  go_enter Tryz.func143, Tryz.ntmps143
  go_wp2
  go_ret
  exact ⟨bool_eq (decide_eq_true (by omega)), rfl⟩
set_option maxHeartbeats 1600000 in
theorem length_any (ae p : Int) (w : World) (ht : Tab w) : Calls Tryz.prog 121 #[.int .i64 ae, .int .i64 p] w fun e w' => e = .returned (.bool (lenB ae p)) ∧ w = w' := by
  have PA := Lib.hid (fun V => ae_any ae V)
  by_cases hi : 0 ≤ ae ∧ ae ≤ 3
  rotate_left
  · have HK := Lib.hid (show lenB ae p = false from by
      cases h : lenB ae p
      · rfl
      · exact absurd ⟨(len_range h).1, (len_range h).2.1⟩ hi)
    rw [decide_eq_false hi] at PA
    clear ht hi
    go_enter Tryz.func121, Tryz.ntmps121
    go_wp2_with fail
    refine (PA.out _).mono ?_
    rintro e w' ⟨rfl, rfl⟩
    go_wp2
    go_ret
    exact ⟨bool_eq HK.out.symm, rfl⟩
  rw [decide_eq_true hi] at PA
  obtain ⟨s0, s1, s2, s3, s4, s5, s6, s7⟩ := ht
  rcases (show ae = 0 ∨ ae = 1 ∨ ae = 2 ∨ ae = 3 by omega) with rfl | rfl | rfl | rfl
  · by_cases h0 : 0 ≤ p
    rotate_left
    · have HK := Lib.hid (show lenB 0 p = false from by rw [len_is, decide_eq_false (show ¬ minA 0 ≤ p from h0)]; rfl)
      clear hi
      go_enter Tryz.func121, Tryz.ntmps121
      go_wp2_with fail
      refine (PA.out _).mono ?_
      rintro e w' ⟨rfl, rfl⟩
      go_wp2
      go_ret
      exact ⟨bool_eq HK.out.symm, rfl⟩
    by_cases h1 : p ≤ 0
    rotate_left
    · have HK := Lib.hid (show lenB 0 p = false from by rw [len_is, decide_eq_false (show ¬ p ≤ maxA 0 from h1), Bool.and_false, Bool.and_false, Bool.and_false])
      have hq : decide (p ≤ 0) = false := decide_eq_false h1
      clear hi
      go_enter Tryz.func121, Tryz.ntmps121
      go_wp2_with fail
      refine (PA.out _).mono ?_
      rintro e w' ⟨rfl, rfl⟩
      go_wp2
      go_ret
      exact ⟨bool_eq HK.out.symm, rfl⟩
    have HK := Lib.hid (show lenB 0 p = true from by rw [len_is, decide_eq_true (show minA 0 ≤ p from h0), decide_eq_true (show p ≤ maxA 0 from h1)]; rfl)
    have hq : decide (p ≤ 0) = true := decide_eq_true h1
    clear hi
    go_enter Tryz.func121, Tryz.ntmps121
    go_wp2_with fail
    refine (PA.out _).mono ?_
    rintro e w' ⟨rfl, rfl⟩
    go_wp2
    go_ret
    exact ⟨bool_eq HK.out.symm, rfl⟩
  · by_cases h0 : 0 ≤ p
    rotate_left
    · have HK := Lib.hid (show lenB 1 p = false from by rw [len_is, decide_eq_false (show ¬ minA 1 ≤ p from h0)]; rfl)
      clear hi
      go_enter Tryz.func121, Tryz.ntmps121
      go_wp2_with fail
      refine (PA.out _).mono ?_
      rintro e w' ⟨rfl, rfl⟩
      go_wp2
      go_ret
      exact ⟨bool_eq HK.out.symm, rfl⟩
    by_cases h1 : p ≤ 32
    rotate_left
    · have HK := Lib.hid (show lenB 1 p = false from by rw [len_is, decide_eq_false (show ¬ p ≤ maxA 1 from h1), Bool.and_false, Bool.and_false, Bool.and_false])
      have hq : decide (p ≤ 32) = false := decide_eq_false h1
      clear hi
      go_enter Tryz.func121, Tryz.ntmps121
      go_wp2_with fail
      refine (PA.out _).mono ?_
      rintro e w' ⟨rfl, rfl⟩
      go_wp2
      go_ret
      exact ⟨bool_eq HK.out.symm, rfl⟩
    have HK := Lib.hid (show lenB 1 p = true from by rw [len_is, decide_eq_true (show minA 1 ≤ p from h0), decide_eq_true (show p ≤ maxA 1 from h1)]; rfl)
    have hq : decide (p ≤ 32) = true := decide_eq_true h1
    clear hi
    go_enter Tryz.func121, Tryz.ntmps121
    go_wp2_with fail
    refine (PA.out _).mono ?_
    rintro e w' ⟨rfl, rfl⟩
    go_wp2
    go_ret
    exact ⟨bool_eq HK.out.symm, rfl⟩
  · by_cases h0 : 0 ≤ p
    rotate_left
    · have HK := Lib.hid (show lenB 2 p = false from by rw [len_is, decide_eq_false (show ¬ minA 2 ≤ p from h0)]; rfl)
      clear hi
      go_enter Tryz.func121, Tryz.ntmps121
      go_wp2_with fail
      refine (PA.out _).mono ?_
      rintro e w' ⟨rfl, rfl⟩
      go_wp2
      go_ret
      exact ⟨bool_eq HK.out.symm, rfl⟩
    by_cases h1 : p ≤ 128
    rotate_left
    · have HK := Lib.hid (show lenB 2 p = false from by rw [len_is, decide_eq_false (show ¬ p ≤ maxA 2 from h1), Bool.and_false, Bool.and_false, Bool.and_false])
      have hq : decide (p ≤ 128) = false := decide_eq_false h1
      clear hi
      go_enter Tryz.func121, Tryz.ntmps121
      go_wp2_with fail
      refine (PA.out _).mono ?_
      rintro e w' ⟨rfl, rfl⟩
      go_wp2
      go_ret
      exact ⟨bool_eq HK.out.symm, rfl⟩
    have HK := Lib.hid (show lenB 2 p = true from by rw [len_is, decide_eq_true (show minA 2 ≤ p from h0), decide_eq_true (show p ≤ maxA 2 from h1)]; rfl)
    have hq : decide (p ≤ 128) = true := decide_eq_true h1
    clear hi
    go_enter Tryz.func121, Tryz.ntmps121
    go_wp2_with fail
    refine (PA.out _).mono ?_
    rintro e w' ⟨rfl, rfl⟩
    go_wp2
    go_ret
    exact ⟨bool_eq HK.out.symm, rfl⟩
  · by_cases h0 : 64 ≤ p
    rotate_left
    · have HK := Lib.hid (show lenB 3 p = false from by rw [len_is, decide_eq_false (show ¬ minA 3 ≤ p from h0)]; rfl)
      clear hi
      go_enter Tryz.func121, Tryz.ntmps121
      go_wp2_with fail
      refine (PA.out _).mono ?_
      rintro e w' ⟨rfl, rfl⟩
      go_wp2
      go_ret
      exact ⟨bool_eq HK.out.symm, rfl⟩
    by_cases h1 : p ≤ 128
    rotate_left
    · have HK := Lib.hid (show lenB 3 p = false from by rw [len_is, decide_eq_false (show ¬ p ≤ maxA 3 from h1), Bool.and_false, Bool.and_false, Bool.and_false])
      have hq : decide (p ≤ 128) = false := decide_eq_false h1
      clear hi
      go_enter Tryz.func121, Tryz.ntmps121
      go_wp2_with fail
      refine (PA.out _).mono ?_
      rintro e w' ⟨rfl, rfl⟩
      go_wp2
      go_ret
      exact ⟨bool_eq HK.out.symm, rfl⟩
    have HK := Lib.hid (show lenB 3 p = true from by rw [len_is, decide_eq_true (show minA 3 ≤ p from h0), decide_eq_true (show p ≤ maxA 3 from h1)]; rfl)
    have hq : decide (p ≤ 128) = true := decide_eq_true h1
    clear hi
    go_enter Tryz.func121, Tryz.ntmps121
    go_wp2_with fail
    refine (PA.out _).mono ?_
    rintro e w' ⟨rfl, rfl⟩
    go_wp2
    go_ret
    exact ⟨bool_eq HK.out.symm, rfl⟩
def famN (a : ByteArray) : Int := if a.size = 4 then 0 else if a.size = 16 then 1 else -1
theorem family_any (s : ByteArray) (w : World) : Calls Tryz.prog 123 #[.string s] w fun e w' => e = .returned (.int .i64 (famN s)) ∧ w = w' := by
  by_cases h4 : s.size = 4
  · have HK := Lib.hid (show famN s = 0 by unfold famN; rw [if_pos h4])
    have e0 : ((s.size : Int) == 4) = true := by rw [beq_iff_eq]; omega
    clear h4
    go_enter Tryz.func123, Tryz.ntmps123
    go_wp2
    go_ret
    exact ⟨int_eq HK.out.symm, rfl⟩
  have e0 : ((s.size : Int) == 4) = false := by rw [beq_eq_false_iff_ne]; omega
  by_cases h6 : s.size = 16
  · have HK := Lib.hid (show famN s = 1 by unfold famN; rw [if_neg h4, if_pos h6])
    have e1 : ((s.size : Int) == 16) = true := by rw [beq_iff_eq]; omega
    clear h4 h6
    go_enter Tryz.func123, Tryz.ntmps123
    go_wp2
    go_ret
    exact ⟨int_eq HK.out.symm, rfl⟩
  have e1 : ((s.size : Int) == 16) = false := by rw [beq_eq_false_iff_ne]; omega
  have HK := Lib.hid (show famN s = -1 by unfold famN; rw [if_neg h4, if_neg h6])
  clear h4 h6
  go_enter Tryz.func123, Tryz.ntmps123
  go_wp2
  go_ret
  exact ⟨int_eq HK.out.symm, rfl⟩
theorem fam_0 (a : ByteArray) : (famN a == 0) = decide (a.size = 4) := by
  unfold famN
  by_cases h4 : a.size = 4
  · rw [if_pos h4, decide_eq_true h4]; rfl
  · rw [if_neg h4, decide_eq_false h4]
    split <;> rfl
theorem fam_1 (a : ByteArray) : (famN a == 1) = decide (a.size = 16) := by
  unfold famN
  by_cases h4 : a.size = 4
  · rw [if_pos h4, decide_eq_false (by omega)]; rfl
  · rw [if_neg h4]
    by_cases h6 : a.size = 16
    · rw [if_pos h6, decide_eq_true h6]; rfl
    · rw [if_neg h6, decide_eq_false h6]; rfl
theorem address_any (ae : Int) (a : ByteArray) (w : World) : Calls Tryz.prog 120 #[.int .i64 ae, .string a] w fun e w' => e = .returned (.bool (adrB ae a)) ∧ w = w' := by
  by_cases h0 : ae = 0
  · subst h0
    have HK := Lib.hid (show adrB 0 a = decide (a.size = 0) from rfl)
    have he := nil_eq a
    have he2 := nil_em a
    generalize decide (a.size = 0) = z at *
    generalize adrB 0 a = y at *
    go_enter Tryz.func120, Tryz.ntmps120
    go_wp2
    go_ret
    exact ⟨bool_eq HK.out.symm, rfl⟩
  by_cases h1 : ae = 1
  · subst h1
    have HK := Lib.hid (show adrB 1 a = decide (a.size = 4) from rfl)
    have PF := Lib.hid (fun V => family_any a V)
    have he := fam_0 a
    generalize decide (a.size = 4) = z at *
    generalize adrB 1 a = y at *
    generalize famN a = f at *
    go_enter Tryz.func120, Tryz.ntmps120
    go_wp2_with fail
    refine (PF.out _).mono ?_
    rintro e w' ⟨rfl, rfl⟩
    go_wp2
    go_ret
    exact ⟨bool_eq HK.out.symm, rfl⟩
  by_cases h2 : ae = 2
  · subst h2
    have HK := Lib.hid (show adrB 2 a = decide (a.size = 16) from rfl)
    have PF := Lib.hid (fun V => family_any a V)
    have he := fam_1 a
    generalize decide (a.size = 16) = z at *
    generalize adrB 2 a = y at *
    generalize famN a = f at *
    go_enter Tryz.func120, Tryz.ntmps120
    go_wp2_with fail
    refine (PF.out _).mono ?_
    rintro e w' ⟨rfl, rfl⟩
    go_wp2
    go_ret
    exact ⟨bool_eq HK.out.symm, rfl⟩
  by_cases h3 : ae = 3
  · subst h3
    have HK := Lib.hid (show adrB 3 a = link a from rfl)
    have PF := Lib.hid (fun V => link_any a V)
    generalize link a = z at *
    generalize adrB 3 a = y at *
    go_enter Tryz.func120, Tryz.ntmps120
    go_wp2_with fail
    refine (PF.out _).mono ?_
    rintro e w' ⟨rfl, rfl⟩
    go_wp2
    go_ret
    exact ⟨bool_eq HK.out.symm, rfl⟩
  have HK := Lib.hid (show adrB ae a = false by unfold adrB; rw [if_neg h0, if_neg h1, if_neg h2, if_neg h3])
  have e0 : (ae == 0) = false := by simpa using h0
  have e1 : (ae == 1) = false := by simpa using h1
  have e2 : (ae == 2) = false := by simpa using h2
  have e3 : (ae == 3) = false := by simpa using h3
  go_enter Tryz.func120, Tryz.ntmps120
  go_wp2
  go_ret
  exact ⟨bool_eq HK.out.symm, rfl⟩
set_option maxHeartbeats 1600000 in
theorem in_any (ae : Int) (a : ByteArray) (p : Int) (w : World) (ha : a.size ≤ maxLen) (ht : Tab w) : Calls Tryz.prog 99 #[.int .i64 ae, .string a, .int .i64 p] w fun e w' => e = .returned (.bool (inB ae a p)) ∧ Below w.heap.size w w' := by
  have P1 := Lib.hid (fun V => address_any ae a V)
  have P2 := Lib.hid (length_any ae p w ht)
  have P3 := Lib.hid (fun V => Pre.right_any a p V ha)
  have HK := Lib.hid (show inB ae a p = (adrB ae a && (lenB ae p && (decide (ae = 0) || rightZ a p))) from rfl)
  clear ht ha
  generalize inB ae a p = y at *
  generalize adrB ae a = x1 at *
  generalize lenB ae p = x2 at *
  generalize rightZ a p = x3 at *
  cases x1
  · go_enter Tryz.func99, Tryz.ntmps99
    go_wp2_with fail
    refine (P1.out _).mono ?_
    rintro r w' ⟨rfl, rfl⟩
    go_wp2
    go_ret
    exact ⟨bool_eq HK.out.symm, Below.refl _ _⟩
  cases x2
  · go_enter Tryz.func99, Tryz.ntmps99
    go_wp2_with fail
    refine (P1.out _).mono ?_
    rintro r w' ⟨rfl, rfl⟩
    go_wp2_with fail
    refine (P2.out).mono ?_
    rintro r w' ⟨rfl, rfl⟩
    go_wp2
    go_ret
    exact ⟨bool_eq HK.out.symm, Below.refl _ _⟩
  by_cases h0 : ae = 0
  · subst h0
    go_enter Tryz.func99, Tryz.ntmps99
    go_wp2_with fail
    refine (P1.out _).mono ?_
    rintro r w' ⟨rfl, rfl⟩
    go_wp2_with fail
    refine (P2.out).mono ?_
    rintro r w' ⟨rfl, rfl⟩
    go_wp2
    go_ret
    exact ⟨bool_eq HK.out.symm, Below.refl _ _⟩
  have e0 : (ae == 0) = false := by simpa using h0
  rw [decide_eq_false h0] at HK
  clear h0
  go_enter Tryz.func99, Tryz.ntmps99
  go_wp2_with fail
  refine (P1.out _).mono ?_
  rintro r w' ⟨rfl, rfl⟩
  go_wp2_with fail
  refine (P2.out).mono ?_
  rintro r w' ⟨rfl, rfl⟩
  go_wp2_with fail
  refine (P3.out _).mono ?_
  rintro r w' ⟨rfl, hb⟩
  go_wp2
  go_ret
  exact ⟨bool_eq HK.out.symm, hb⟩
theorem count_any (ae p : Int) (w : World) (h : lenB ae p = true) : Calls Tryz.prog 152 #[.int .i64 ae, .int .i64 p] w fun e w' => e = .returned (.int .i64 (countN ae p : Nat)) ∧ w = w' := by
  have hr := len_range h
  have hc := count_le h
  have P1 := Lib.hid (fun V => Pre.least_any p V (by omega))
  by_cases h3 : ae = 3
  · subst h3
    have HK0 : ((countN 3 p : Nat) : Int) = (leastN p : Int) - 8 := by have : baseN 3 = 8 := rfl; omega
    have hw : wrap64 ((leastN p : Int) - 8) = (leastN p : Int) - 8 := IntWalk.wrap64_in _ ⟨by omega, by have := hc.1; have : baseN 3 = 8 := rfl; omega⟩
    have HK := Lib.hid (hw.trans HK0.symm)
    clear hw HK0
    generalize countN 3 p = c at *
    generalize leastN p = n at *
    clear hr hc h
    go_enter Tryz.func152, Tryz.ntmps152
    go_wp2_with fail
    refine (P1.out _).mono ?_
    rintro r w' ⟨rfl, rfl⟩
    go_wp2
    go_ret
    exact ⟨int_eq HK.out, rfl⟩
  have HK := Lib.hid (show ((countN ae p : Nat) : Int) = (leastN p : Int) from by
    have : baseN ae = 0 := by unfold baseN; rw [if_neg h3]
    omega)
  have e3 : (ae == 3) = false := by simpa using h3
  generalize countN ae p = c at *
  generalize leastN p = n at *
  clear hr hc h
  go_enter Tryz.func152, Tryz.ntmps152
  go_wp2_with fail
  refine (P1.out _).mono ?_
  rintro r w' ⟨rfl, rfl⟩
  go_wp2
  go_ret
  exact ⟨int_eq HK.out.symm, rfl⟩
theorem adr_size {ae : Int} {a : ByteArray} {p : Int} (h : inB ae a p = true) : a.size ≤ 16 := by
  rcases (in_cases h).2 with ⟨_, h0⟩ | ⟨⟨_, h0⟩ | ⟨_, h0⟩ | ⟨_, h0⟩, _⟩
  · omega
  · omega
  · omega
  · have := link_size h0; omega
theorem cutL_len {ae : Int} {a : ByteArray} {p : Int} (h : inB ae a p = true) : (cutL a.data.toList p).length = leastN p := by
  have h1 := cut_size h
  have h2 := (count_le (in_cases h).1).2
  unfold cutP at h1
  rw [mk_size, List.length_drop] at h1
  rcases (in_cases h).2 with ⟨rfl, h0⟩ | ⟨hc, h8, _⟩
  · have : baseN 0 = 0 := rfl
    omega
  · unfold cutL
    have := (len_range (in_cases h).1).2.2.1
    rw [List.length_take, keepL_length, size_list, Nat.min_eq_left (by unfold leastN; omega)]
set_option maxHeartbeats 1600000 in
theorem cut_any (ae : Int) (a : ByteArray) (p : Int) (w : World) (h : inB ae a p = true) : Calls Tryz.prog 137 #[.int .i64 ae, .string a, .int .i64 p] w fun e w' => e = .returned (.string (cutP ae a p)) ∧ Below w.heap.size w w' := by
  have hl := (in_cases h).1
  have hr := len_range hl
  have hc := count_le hl
  have hz := cutL_len h
  have ha := adr_size h
  have P1 := Lib.hid (fun V => Pre.cut_any a p V (by omega) (by omega))
  have P2 := Lib.hid (fun V => count_any ae p V hl)
  have hs : (ByteArray.mk (cutL a.data.toList p).toArray).size = leastN p := by rw [mk_size, hz]
  have HK := Lib.hid (show (ByteArray.mk (cutL a.data.toList p).toArray).extract (baseN ae) (leastN p) = cutP ae a p from text_eq (by
    rw [Nu.ext_list]
    show ((cutL a.data.toList p).drop (baseN ae)).take (leastN p - baseN ae) = (cutL a.data.toList p).drop (baseN ae)
    exact List.take_of_length_le (by rw [List.length_drop, hz]; exact Nat.le_refl _)))
  generalize ByteArray.mk (cutL a.data.toList p).toArray = x at *
  generalize cutP ae a p = y at *
  have hsl : ∀ wx, Sem.run Tryz.prog (Instr.slice 9 (Value.string x) (some (Value.int IntKind.i64 ((x.size : Int) - (countN ae p : Int)))) none none) wx = .ok (.string y) wx := fun wx => by
    have := F2.sl_l x ((x.size : Int) - (countN ae p : Int)) (baseN ae) (leastN p) (by omega) (by omega) hs wx
    rw [HK.out] at this
    exact this
  have hln : leastN p ≤ 16 := by unfold leastN; omega
  have hw : wrap64 ((x.size : Int) - (countN ae p : Int)) = (x.size : Int) - (countN ae p : Int) := IntWalk.wrap64_in _ ⟨by omega, by omega⟩
  clear hln
  generalize countN ae p = c at *
  clear hl hr hc hz ha hs h HK
  go_enter Tryz.func137, Tryz.ntmps137
  go_wp2_with fail
  refine (P1.out _).mono ?_
  rintro r w' ⟨rfl, hb⟩
  go_wp2_with fail
  refine (P2.out _).mono ?_
  rintro r w' ⟨rfl, rfl⟩
  go_wp2
  go_ret
  exact ⟨rfl, hb⟩
theorem lay_size {ae : Int} {s : ByteArray} {p : Int} (hl : lenB ae p = true) (hs : s.size = countN ae p) : s.size ≤ 16 := by have := (count_le hl).1; omega
theorem seq_is (m : M) : seqB m = (!decide (m.ae = 0) && (fitsB m.seq 2 && (decide (m.id.size = 8) && (decide (1 ≤ m.hops) && fitsB m.hops 1)))) := rfl
set_option maxHeartbeats 3200000 in
theorem kind_any (m : M) (w : World) : Calls Tryz.prog 102 #[.agg m.cells] w fun e w' => e = .returned (.bool (kindB m)) ∧ Below w.heap.size w w' := by
  have HB := Lib.hid (balloc (Below.refl _ w) (.cells m.cells 38))
  have b0 := Bx.new w m
  by_cases h12 : m.kind = 12
  · have HK := Lib.hid (show kindB m = true by unfold kindB; rw [if_pos h12])
    go_enter Tryz.func102, Tryz.ntmps102
    go_upto_region 1 with fail
    generalize w.alloc (.cells m.cells 38) = V at *
    have c0 := b0.cs.c0
    have c5 := b0.cs.c5
    have c11 := b0.cs.c11
    have c12 := b0.cs.c12
    have c16 := b0.cs.c16
    clear b0
    rw [h12] at c0
    go_wp2
    go_ret
    exact ⟨bool_eq HK.out.symm, HB.out⟩
  by_cases h13 : m.kind = 13
  rotate_left
  · have HK := Lib.hid (show kindB m = false by unfold kindB; rw [if_neg h12, if_neg h13])
    have e12 : (m.kind == 12) = false := by simpa using h12
    have e13 : (m.kind == 13) = false := by simpa using h13
    go_enter Tryz.func102, Tryz.ntmps102
    go_upto_region 1 with fail
    generalize w.alloc (.cells m.cells 38) = V at *
    have c0 := b0.cs.c0
    have c5 := b0.cs.c5
    have c11 := b0.cs.c11
    have c12 := b0.cs.c12
    have c16 := b0.cs.c16
    clear b0
    go_wp2
    go_ret
    exact ⟨bool_eq HK.out.symm, HB.out⟩
  have HK := Lib.hid (show kindB m = (!decide (m.ae = 0) && (fitsB m.seq 2 && (decide (m.id.size = 8) && (decide (1 ≤ m.hops) && fitsB m.hops 1)))) by unfold kindB; rw [if_neg h12, if_pos h13, seq_is])
  have P1 := Lib.hid (fun V => Oct.fits_any m.seq 2 V)
  have P2 := Lib.hid (fun V => Oct.fits_any m.hops 1 V)
  generalize kindB m = y at *
  generalize fitsB m.seq 2 = x1 at *
  generalize fitsB m.hops 1 = x2 at *
  by_cases h0 : m.ae = 0
  · rw [decide_eq_true h0] at HK
    go_enter Tryz.func102, Tryz.ntmps102
    go_upto_region 1 with fail
    generalize w.alloc (.cells m.cells 38) = V at *
    have c0 := b0.cs.c0
    have c5 := b0.cs.c5
    have c11 := b0.cs.c11
    have c12 := b0.cs.c12
    have c16 := b0.cs.c16
    clear b0
    rw [h13] at c0
    rw [h0] at c5
    clear h0 h12 h13
    go_wp2
    go_ret
    exact ⟨bool_eq HK.out.symm, HB.out⟩
  have e0 : (m.ae == 0) = false := by simpa using h0
  have e1 : (m.ae != 0) = true := by rw [bne, e0]; rfl
  rw [decide_eq_false h0] at HK
  cases x1
  · go_enter Tryz.func102, Tryz.ntmps102
    go_upto_region 1 with fail
    generalize w.alloc (.cells m.cells 38) = V at *
    have c0 := b0.cs.c0
    have c5 := b0.cs.c5
    have c11 := b0.cs.c11
    have c12 := b0.cs.c12
    have c16 := b0.cs.c16
    clear b0
    rw [h13] at c0
    clear h0 h12 h13
    go_wp2_with fail
    refine (P1.out _).mono ?_
    rintro r w' ⟨rfl, rfl⟩
    go_wp2
    go_ret
    exact ⟨bool_eq HK.out.symm, HB.out⟩
  have e2 : ((m.id.size : Int) == 8) = decide (m.id.size = 8) := size_eq m.id 8
  by_cases h8 : m.id.size = 8
  rotate_left
  · rw [decide_eq_false h8] at HK e2
    clear h8
    go_enter Tryz.func102, Tryz.ntmps102
    go_upto_region 1 with fail
    generalize w.alloc (.cells m.cells 38) = V at *
    have c0 := b0.cs.c0
    have c5 := b0.cs.c5
    have c11 := b0.cs.c11
    have c12 := b0.cs.c12
    have c16 := b0.cs.c16
    clear b0
    rw [h13] at c0
    clear h0 h12 h13
    go_wp2_with fail
    refine (P1.out _).mono ?_
    rintro r w' ⟨rfl, rfl⟩
    go_wp2
    go_ret
    exact ⟨bool_eq HK.out.symm, HB.out⟩
  rw [decide_eq_true h8] at HK e2
  clear h8
  by_cases h1 : 1 ≤ m.hops
  rotate_left
  · rw [decide_eq_false h1] at HK
    go_enter Tryz.func102, Tryz.ntmps102
    go_upto_region 1 with fail
    generalize w.alloc (.cells m.cells 38) = V at *
    have c0 := b0.cs.c0
    have c5 := b0.cs.c5
    have c11 := b0.cs.c11
    have c12 := b0.cs.c12
    have c16 := b0.cs.c16
    clear b0
    rw [h13] at c0
    clear h0 h12 h13
    go_wp2_with fail
    refine (P1.out _).mono ?_
    rintro r w' ⟨rfl, rfl⟩
    go_wp2
    go_ret
    exact ⟨bool_eq HK.out.symm, HB.out⟩
  rw [decide_eq_true h1] at HK
  go_enter Tryz.func102, Tryz.ntmps102
  go_upto_region 1 with fail
  generalize w.alloc (.cells m.cells 38) = V at *
  have c0 := b0.cs.c0
  have c5 := b0.cs.c5
  have c11 := b0.cs.c11
  have c12 := b0.cs.c12
  have c16 := b0.cs.c16
  clear b0
  rw [h13] at c0
  clear h0 h12 h13
  go_wp2_with fail
  refine (P1.out _).mono ?_
  rintro r w' ⟨rfl, rfl⟩
  go_wp2_with fail
  refine (P2.out _).mono ?_
  rintro r w' ⟨rfl, rfl⟩
  go_wp2
  go_ret
  exact ⟨bool_eq HK.out.symm, HB.out⟩
theorem base_any (ae : Int) (w : World) : Calls Tryz.prog 42 #[.int .i64 ae] w fun e w' => e = .returned (.int .i64 (baseN ae : Nat)) ∧ w = w' := by
  by_cases h3 : ae = 3
  · subst h3
    have HK := Lib.hid (show ((baseN 3 : Nat) : Int) = 8 from rfl)
    go_enter Tryz.func42, Tryz.ntmps42
    go_wp2
    go_ret
    exact ⟨rfl, rfl⟩
  have HK := Lib.hid (show ((baseN ae : Nat) : Int) = 0 by unfold baseN; rw [if_neg h3]; rfl)
  have e3 : (ae == 3) = false := by simpa using h3
  go_enter Tryz.func42, Tryz.ntmps42
  go_wp2
  go_ret
  exact ⟨int_eq HK.out.symm, rfl⟩
set_option maxHeartbeats 1600000 in
theorem great_any (ae p : Int) (w : World) (h0 : 0 ≤ ae) (h3 : ae ≤ 3) (hp : 0 ≤ p) : Calls Tryz.prog 94 #[.int .i64 ae, .int .i64 p] w fun e w' => e = .returned (.bool (!lenB ae p)) ∧ w = w' := by
  rcases (show ae = 0 ∨ ae = 1 ∨ ae = 2 ∨ ae = 3 by omega) with rfl | rfl | rfl | rfl
  · clear h0 h3
    have hl : minA 0 ≤ p := hp
    by_cases hh : p ≤ 0
    rotate_left
    · have HK := Lib.hid (show (!lenB 0 p) = true by rw [len_is, decide_eq_false (show ¬ p ≤ maxA 0 from hh), Bool.and_false, Bool.and_false, Bool.and_false]; rfl)
      generalize (!lenB 0 p) = y at *
      have hq : (p == 0) = false := by simpa using (show ¬ p = 0 by omega)
      have hq2 : (p != 0) = true := by rw [bne, hq]; rfl
      go_enter Tryz.func94, Tryz.ntmps94
      go_wp2
      go_ret
      exact ⟨bool_eq HK.out.symm, rfl⟩
    have HK := Lib.hid (show (!lenB 0 p) = false by rw [len_is, decide_eq_true (show minA 0 ≤ p from hl), decide_eq_true (show p ≤ maxA 0 from hh)]; rfl)
    generalize (!lenB 0 p) = y at *
    obtain rfl : p = 0 := by omega
    go_enter Tryz.func94, Tryz.ntmps94
    go_wp2
    go_ret
    exact ⟨bool_eq HK.out.symm, rfl⟩
  · clear h0 h3
    have hl : minA 1 ≤ p := hp
    by_cases hh : p ≤ 32
    rotate_left
    · have HK := Lib.hid (show (!lenB 1 p) = true by rw [len_is, decide_eq_false (show ¬ p ≤ maxA 1 from hh), Bool.and_false, Bool.and_false, Bool.and_false]; rfl)
      generalize (!lenB 1 p) = y at *
      have hh2 : 32 < p := by omega
      go_enter Tryz.func94, Tryz.ntmps94
      go_wp2
      go_ret
      exact ⟨bool_eq HK.out.symm, rfl⟩
    have HK := Lib.hid (show (!lenB 1 p) = false by rw [len_is, decide_eq_true (show minA 1 ≤ p from hl), decide_eq_true (show p ≤ maxA 1 from hh)]; rfl)
    generalize (!lenB 1 p) = y at *
    have hh2 : ¬ 32 < p := by omega
    go_enter Tryz.func94, Tryz.ntmps94
    go_wp2
    go_ret
    exact ⟨bool_eq HK.out.symm, rfl⟩
  · clear h0 h3
    have hl : minA 2 ≤ p := hp
    by_cases hh : p ≤ 128
    rotate_left
    · have HK := Lib.hid (show (!lenB 2 p) = true by rw [len_is, decide_eq_false (show ¬ p ≤ maxA 2 from hh), Bool.and_false, Bool.and_false, Bool.and_false]; rfl)
      generalize (!lenB 2 p) = y at *
      have hh2 : 128 < p := by omega
      go_enter Tryz.func94, Tryz.ntmps94
      go_wp2
      go_ret
      exact ⟨bool_eq HK.out.symm, rfl⟩
    have HK := Lib.hid (show (!lenB 2 p) = false by rw [len_is, decide_eq_true (show minA 2 ≤ p from hl), decide_eq_true (show p ≤ maxA 2 from hh)]; rfl)
    generalize (!lenB 2 p) = y at *
    have hh2 : ¬ 128 < p := by omega
    go_enter Tryz.func94, Tryz.ntmps94
    go_wp2
    go_ret
    exact ⟨bool_eq HK.out.symm, rfl⟩
  · clear h0 h3
    by_cases hl : 64 ≤ p
    rotate_left
    · have HK := Lib.hid (show (!lenB 3 p) = true by rw [len_is, decide_eq_false (show ¬ minA 3 ≤ p from hl)]; rfl)
      generalize (!lenB 3 p) = y at *
      have hh : ¬ 128 < p := by omega
      go_enter Tryz.func94, Tryz.ntmps94
      go_wp2
      go_ret
      exact ⟨bool_eq HK.out.symm, rfl⟩
    by_cases hh : p ≤ 128
    rotate_left
    · have HK := Lib.hid (show (!lenB 3 p) = true by rw [len_is, decide_eq_false (show ¬ p ≤ maxA 3 from hh), Bool.and_false, Bool.and_false, Bool.and_false]; rfl)
      generalize (!lenB 3 p) = y at *
      have hh2 : 128 < p := by omega
      go_enter Tryz.func94, Tryz.ntmps94
      go_wp2
      go_ret
      exact ⟨bool_eq HK.out.symm, rfl⟩
    have HK := Lib.hid (show (!lenB 3 p) = false by rw [len_is, decide_eq_true (show minA 3 ≤ p from hl), decide_eq_true (show p ≤ maxA 3 from hh)]; rfl)
    generalize (!lenB 3 p) = y at *
    have hh2 : ¬ 128 < p := by omega
    go_enter Tryz.func94, Tryz.ntmps94
    go_wp2
    go_ret
    exact ⟨bool_eq (by rw [HK.out]; exact decide_eq_false (by omega)), rfl⟩
set_option maxHeartbeats 1600000 in
theorem rwhole_any (ae : Int) (s : ByteArray) (p : Int) (w : World) (hl : lenB ae p = true) (hs : s.size = countN ae p) : Calls Tryz.prog 95 #[.int .i64 ae, .string s, .int .i64 p] w fun e w' => e = .returned (.string (wholeP ae s p)) ∧ Below w.heap.size w w' := by
  have hz := lay_size hl hs
  have hwl := whole_len hl hs
  have P2 := Lib.hid (fun V => Bits.rkeep_any ⟨(wholeL ae s).toArray⟩ p V (by rw [mk_size, hwl]; split <;> (try split) <;> omega))
  have P2 := Lib.hid (show ∀ V, Calls Tryz.prog 85 #[.string ⟨(wholeL ae s).toArray⟩, .int .i64 p] V fun e w' => e = .returned (.string (wholeP ae s p)) ∧ Below V.heap.size V w' from P2.out)
  rcases len_cases hl with ⟨rfl, rfl⟩ | ⟨rfl, a, b⟩ | ⟨rfl, a, b⟩ | ⟨rfl, a, b⟩
  · have HK := Lib.hid (show wholeP 0 s 0 = ⟨#[]⟩ from rfl)
    generalize wholeP 0 s 0 = y at *
    clear hz hwl hl hs P2
    go_enter Tryz.func95, Tryz.ntmps95
    go_wp2
    go_ret
    exact ⟨str_eq HK.out.symm, Below.refl _ _⟩
  · have P1 := Lib.hid (fun V => Pre.rfill_any s 4 V (by omega) (by decide))
    have P1 := Lib.hid (show ∀ V, Calls Tryz.prog 116 #[.string s, .int .i64 4] V fun e w' => e = .returned (.string ⟨(wholeL 1 s).toArray⟩) ∧ V = w' from P1.out)
    generalize wholeP 1 s p = y at *
    generalize ByteArray.mk (wholeL 1 s).toArray = x at *
    clear hz hwl hl hs a b
    go_enter Tryz.func95, Tryz.ntmps95
    go_wp2_with fail
    refine (P1.out _).mono ?_
    rintro r w' ⟨rfl, rfl⟩
    go_wp2_with fail
    refine (P2.out _).mono ?_
    rintro r w' ⟨rfl, hb⟩
    go_wp2
    go_ret
    exact ⟨rfl, hb⟩
  · have P1 := Lib.hid (fun V => Pre.rfill_any s 16 V (by omega) (by decide))
    have P1 := Lib.hid (show ∀ V, Calls Tryz.prog 116 #[.string s, .int .i64 16] V fun e w' => e = .returned (.string ⟨(wholeL 2 s).toArray⟩) ∧ V = w' from P1.out)
    generalize wholeP 2 s p = y at *
    generalize ByteArray.mk (wholeL 2 s).toArray = x at *
    clear hz hwl hl hs a b
    go_enter Tryz.func95, Tryz.ntmps95
    go_wp2_with fail
    refine (P1.out _).mono ?_
    rintro r w' ⟨rfl, rfl⟩
    go_wp2_with fail
    refine (P2.out _).mono ?_
    rintro r w' ⟨rfl, hb⟩
    go_wp2
    go_ret
    exact ⟨rfl, hb⟩
  · have P1 := Lib.hid (fun V => Pre.rfill_any s 8 V (by omega) (by decide))
    have hb8 : baseN 3 = 8 := rfl
    have hcn : leastN p ≤ 16 := by unfold leastN; omega
    have hfl : (fillL s.data.toList 8).length = 8 := fillL_length _ _ (by rw [size_list]; have := (count_le hl).2; omega)
    have HG := Lib.hid (show lgA ⟨(fillL s.data.toList (8 : Int).toNat).toArray⟩ = ⟨(wholeL 3 s).toArray⟩ from by
      have hz8 : (ByteArray.mk (fillL s.data.toList 8).toArray).size = 8 := by rw [mk_size, hfl]
      show lgA ⟨(fillL s.data.toList 8).toArray⟩ = _
      unfold lgA
      rw [if_pos hz8]
      exact text_eq (by show _ = lkH.data.toList ++ fillL s.data.toList 8; simp [ByteArray.data_append]))
    have P3 := Lib.hid (fun V => rlong_any ⟨(fillL s.data.toList (8 : Int).toNat).toArray⟩ V)
    rw [HG.out] at P3
    generalize wholeP 3 s p = y at *
    generalize ByteArray.mk (wholeL 3 s).toArray = x at *
    generalize (⟨(fillL s.data.toList (8 : Int).toNat).toArray⟩ : ByteArray) = u at *
    clear hz hwl hl hs a b HG hb8 hcn hfl
    go_enter Tryz.func95, Tryz.ntmps95
    go_wp2_with fail
    refine (P1.out _).mono ?_
    rintro r w' ⟨rfl, rfl⟩
    go_wp2_with fail
    refine (P3.out _).mono ?_
    rintro r w1 ⟨rfl, hb⟩
    have HB := Lib.hid hb
    clear hb
    go_wp2_with fail
    refine (P2.out _).mono ?_
    rintro r w2 ⟨rfl, hb⟩
    go_wp2
    go_ret
    exact ⟨rfl, bcall HB.out hb⟩
end Go.Proofs.YtjhfpobjbijcpaaGreatDoor.J2
