/-
  Whether a prefix is one in an encoding, whether a message may be, a prefix's bytes and the prefix of bytes: the program's answers and the document's. Conditions: the message's lists stand in the world, and aren't long; the variable has what it is laid with.
-/
import Derived.Test.YtjhfpobjbijcpaaGreatDoorE10
import Derived.Test.YtjhfpobjbijcpaaGreatDoorE12
import Derived.Test.YtjhfpobjbijcpaaGreatDoorE14
namespace Go.Proofs.YtjhfpobjbijcpaaGreatDoor.J2
open Go.ChangeShapes Go.WideShapes Go.ChangeAt Go.RowKit
open Go.Proofs.YtjhfpobjbijcpaaGreatDoor.Ms
open Go.Proofs.YtjhfpobjbijcpaaGreatDoor.Box
open Go.Proofs.YtjhfpobjbijcpaaGreatDoor.S1
open Go.Proofs.YtjhfpobjbijcpaaGreatDoor.Lk
open Go.Proofs.YtjhfpobjbijcpaaGreatDoor.Nu (text_eq)
open Go.Proofs.YtjhfpobjbijcpaaGreatDoor.J1
open Go.Proofs.YtjhfpobjbijcpaaGreatDoor.An
open Go.Proofs.YtjhfpobjbijcpaaGreatDoor.Tc
open Go.Proofs.YtjhfpobjbijcpaaGreatDoor.Oct (fitsB)
open Go.Proofs.YtjhfpobjbijcpaaGreatDoor.Bits (keepL keepL_length)
open Go.Proofs.YtjhfpobjbijcpaaGreatDoor.Pre (leastN cutL fillL rightZ)
open Go.Proofs.YtjhfpobjbijcpaaGreatDoor.Hs
open Go.Proofs.YtjhfpobjbijcpaaGreatDoor.Or (st_yes)
set_option linter.unusedVariables false
set_option maxRecDepth 100000
set_option maxRecDepth 100000
theorem bool_eq {a b : Bool} (h : a = b) : Ending.returned (.bool a) = .returned (.bool b) := by rw [h]
theorem int_eq {a b : Int} (h : a = b) : Ending.returned (.int .i64 a) = .returned (.int .i64 b) := by rw [h]
theorem pair_eq {s t : ByteArray} {b c : Bool} (h : s = t) (k : b = c) : Ending.returned (.tuple #[.string s, .bool b]) = .returned (.tuple #[.string t, .bool c]) := by rw [h, k]
theorem len_is (ae p : Int) : lenB ae p = (decide (0 ≤ ae) && (decide (ae ≤ 3) && (decide (minA ae ≤ p) && decide (p ≤ maxA ae)))) := rfl
theorem size_eq (a : ByteArray) (k : Nat) : ((a.size : Int) == (k : Int)) = decide (a.size = k) := by rw [Bool.eq_iff_iff]; simp; omega
theorem nil_eq (a : ByteArray) : (a.toList == ([] : List UInt8)) = decide (a.size = 0) := by
  rw [Bool.eq_iff_iff, beq_iff_eq, decide_eq_true_eq, ByteArray.toList_eq, ← size_list, List.length_eq_zero_iff]
theorem nil_em (a : ByteArray) : a.toList.isEmpty = decide (a.size = 0) := by rw [← nil_eq]; cases a.toList <;> rfl
theorem ae_any (n : Int) (w : World) : Calls Tryz.prog 143 #[.int .i64 n] w fun e w' => e = .returned (.bool (decide (0 ≤ n ∧ n ≤ 3))) ∧ w = w' := by
  by_cases h0 : 0 ≤ n
  rotate_left
  · rw [decide_eq_false (fun h => h0 h.1)]
    go_enter Tryz.func143, Tryz.ntmps143
    go_wp2
    go_ret
    exact ⟨rfl, rfl⟩
  by_cases h1 : n ≤ 3
  rotate_left
  · rw [decide_eq_false (fun h => h1 h.2)]
    go_enter Tryz.func143, Tryz.ntmps143
    go_wp2
    go_ret
    exact ⟨bool_eq (decide_eq_false (by omega)), rfl⟩
  rw [decide_eq_true ⟨h0, h1⟩]
  go_enter Tryz.func143, Tryz.ntmps143
  go_wp2
  go_ret
  exact ⟨bool_eq (decide_eq_true (by omega)), rfl⟩
set_option maxHeartbeats 1600000 in
theorem length_any (ae p : Int) (w : World) (ht : Tab w) : Calls Tryz.prog 121 #[.int .i64 ae, .int .i64 p] w fun e w' => e = .returned (.bool (lenB ae p)) ∧ w = w' := by
  have PA := Lib.hid (fun V => ae_any ae V)
  by_cases hi : 0 ≤ ae ∧ ae ≤ 3
  rotate_left
  · have HK := Lib.hid (show lenB ae p = false from by
      cases h : lenB ae p
      · rfl
      · exact absurd ⟨(len_range h).1, (len_range h).2.1⟩ hi)
    rw [decide_eq_false hi] at PA
    clear ht hi
    go_enter Tryz.func121, Tryz.ntmps121
    go_wp2_with fail
    refine (PA.out _).mono ?_
    rintro e w' ⟨rfl, rfl⟩
    go_wp2
    go_ret
    exact ⟨bool_eq HK.out.symm, rfl⟩
  rw [decide_eq_true hi] at PA
  obtain ⟨s0, s1, s2, s3, s4, s5, s6, s7⟩ := ht
  rcases (show ae = 0 ∨ ae = 1 ∨ ae = 2 ∨ ae = 3 by omega) with rfl | rfl | rfl | rfl
  · by_cases h0 : 0 ≤ p
    rotate_left
    · have HK := Lib.hid (show lenB 0 p = false from by rw [len_is, decide_eq_false (show ¬ minA 0 ≤ p from h0)]; rfl)
      clear hi
      go_enter Tryz.func121, Tryz.ntmps121
      go_wp2_with fail
      refine (PA.out _).mono ?_
      rintro e w' ⟨rfl, rfl⟩
      go_wp2
      go_ret
      exact ⟨bool_eq HK.out.symm, rfl⟩
    by_cases h1 : p ≤ 0
    rotate_left
    · have HK := Lib.hid (show lenB 0 p = false from by rw [len_is, decide_eq_false (show ¬ p ≤ maxA 0 from h1), Bool.and_false, Bool.and_false, Bool.and_false])
      have hq : decide (p ≤ 0) = false := decide_eq_false h1
      clear hi
      go_enter Tryz.func121, Tryz.ntmps121
      go_wp2_with fail
      refine (PA.out _).mono ?_
      rintro e w' ⟨rfl, rfl⟩
      go_wp2
      go_ret
      exact ⟨bool_eq HK.out.symm, rfl⟩
    have HK := Lib.hid (show lenB 0 p = true from by rw [len_is, decide_eq_true (show minA 0 ≤ p from h0), decide_eq_true (show p ≤ maxA 0 from h1)]; rfl)
    have hq : decide (p ≤ 0) = true := decide_eq_true h1
    clear hi
    go_enter Tryz.func121, Tryz.ntmps121
    go_wp2_with fail
    refine (PA.out _).mono ?_
    rintro e w' ⟨rfl, rfl⟩
    go_wp2
    go_ret
    exact ⟨bool_eq HK.out.symm, rfl⟩
  · by_cases h0 : 0 ≤ p
    rotate_left
    · have HK := Lib.hid (show lenB 1 p = false from by rw [len_is, decide_eq_false (show ¬ minA 1 ≤ p from h0)]; rfl)
      clear hi
      go_enter Tryz.func121, Tryz.ntmps121
      go_wp2_with fail
      refine (PA.out _).mono ?_
      rintro e w' ⟨rfl, rfl⟩
      go_wp2
      go_ret
      exact ⟨bool_eq HK.out.symm, rfl⟩
    by_cases h1 : p ≤ 32
    rotate_left
    · have HK := Lib.hid (show lenB 1 p = false from by rw [len_is, decide_eq_false (show ¬ p ≤ maxA 1 from h1), Bool.and_false, Bool.and_false, Bool.and_false])
      have hq : decide (p ≤ 32) = false := decide_eq_false h1
      clear hi
      go_enter Tryz.func121, Tryz.ntmps121
      go_wp2_with fail
      refine (PA.out _).mono ?_
      rintro e w' ⟨rfl, rfl⟩
      go_wp2
      go_ret
      exact ⟨bool_eq HK.out.symm, rfl⟩
    have HK := Lib.hid (show lenB 1 p = true from by rw [len_is, decide_eq_true (show minA 1 ≤ p from h0), decide_eq_true (show p ≤ maxA 1 from h1)]; rfl)
    have hq : decide (p ≤ 32) = true := decide_eq_true h1
    clear hi
    go_enter Tryz.func121, Tryz.ntmps121
    go_wp2_with fail
    refine (PA.out _).mono ?_
    rintro e w' ⟨rfl, rfl⟩
    go_wp2
    go_ret
    exact ⟨bool_eq HK.out.symm, rfl⟩
  · by_cases h0 : 0 ≤ p
    rotate_left
    · have HK := Lib.hid (show lenB 2 p = false from by rw [len_is, decide_eq_false (show ¬ minA 2 ≤ p from h0)]; rfl)
      clear hi
      go_enter Tryz.func121, Tryz.ntmps121
      go_wp2_with fail
      refine (PA.out _).mono ?_
      rintro e w' ⟨rfl, rfl⟩
      go_wp2
      go_ret
      exact ⟨bool_eq HK.out.symm, rfl⟩
    by_cases h1 : p ≤ 128
    rotate_left
    · have HK := Lib.hid (show lenB 2 p = false from by rw [len_is, decide_eq_false (show ¬ p ≤ maxA 2 from h1), Bool.and_false, Bool.and_false, Bool.and_false])
      have hq : decide (p ≤ 128) = false := decide_eq_false h1
      clear hi
      go_enter Tryz.func121, Tryz.ntmps121
      go_wp2_with fail
      refine (PA.out _).mono ?_
      rintro e w' ⟨rfl, rfl⟩
      go_wp2
      go_ret
      exact ⟨bool_eq HK.out.symm, rfl⟩
    have HK := Lib.hid (show lenB 2 p = true from by rw [len_is, decide_eq_true (show minA 2 ≤ p from h0), decide_eq_true (show p ≤ maxA 2 from h1)]; rfl)
    have hq : decide (p ≤ 128) = true := decide_eq_true h1
    clear hi
    go_enter Tryz.func121, Tryz.ntmps121
    go_wp2_with fail
    refine (PA.out _).mono ?_
    rintro e w' ⟨rfl, rfl⟩
    go_wp2
    go_ret
    exact ⟨bool_eq HK.out.symm, rfl⟩
  · by_cases h0 : 64 ≤ p
    rotate_left
    · have HK := Lib.hid (show lenB 3 p = false from by rw [len_is, decide_eq_false (show ¬ minA 3 ≤ p from h0)]; rfl)
      clear hi
      go_enter Tryz.func121, Tryz.ntmps121
      go_wp2_with fail
      refine (PA.out _).mono ?_
      rintro e w' ⟨rfl, rfl⟩
      go_wp2
      go_ret
      exact ⟨bool_eq HK.out.symm, rfl⟩
    by_cases h1 : p ≤ 128
    rotate_left
    · have HK := Lib.hid (show lenB 3 p = false from by rw [len_is, decide_eq_false (show ¬ p ≤ maxA 3 from h1), Bool.and_false, Bool.and_false, Bool.and_false])
      have hq : decide (p ≤ 128) = false := decide_eq_false h1
      clear hi
      go_enter Tryz.func121, Tryz.ntmps121
      go_wp2_with fail
      refine (PA.out _).mono ?_
      rintro e w' ⟨rfl, rfl⟩
      go_wp2
      go_ret
      exact ⟨bool_eq HK.out.symm, rfl⟩
    have HK := Lib.hid (show lenB 3 p = true from by rw [len_is, decide_eq_true (show minA 3 ≤ p from h0), decide_eq_true (show p ≤ maxA 3 from h1)]; rfl)
    have hq : decide (p ≤ 128) = true := decide_eq_true h1
    clear hi
    go_enter Tryz.func121, Tryz.ntmps121
    go_wp2_with fail
    refine (PA.out _).mono ?_
    rintro e w' ⟨rfl, rfl⟩
    go_wp2
    go_ret
    exact ⟨bool_eq HK.out.symm, rfl⟩
def famN (a : ByteArray) : Int := if a.size = 4 then 0 else if a.size = 16 then 1 else -1
theorem family_any (s : ByteArray) (w : World) : Calls Tryz.prog 123 #[.string s] w fun e w' => e = .returned (.int .i64 (famN s)) ∧ w = w' := by
  by_cases h4 : s.size = 4
  · have HK := Lib.hid (show famN s = 0 by unfold famN; rw [if_pos h4])
    have e0 : ((s.size : Int) == 4) = true := by rw [beq_iff_eq]; omega
    clear h4
    go_enter Tryz.func123, Tryz.ntmps123
    go_wp2
    go_ret
    exact ⟨int_eq HK.out.symm, rfl⟩
  have e0 : ((s.size : Int) == 4) = false := by rw [beq_eq_false_iff_ne]; omega
  by_cases h6 : s.size = 16
  · have HK := Lib.hid (show famN s = 1 by unfold famN; rw [if_neg h4, if_pos h6])
    have e1 : ((s.size : Int) == 16) = true := by rw [beq_iff_eq]; omega
    clear h4 h6
    go_enter Tryz.func123, Tryz.ntmps123
    go_wp2
    go_ret
    exact ⟨int_eq HK.out.symm, rfl⟩
  have e1 : ((s.size : Int) == 16) = false := by rw [beq_eq_false_iff_ne]; omega
  have HK := Lib.hid (show famN s = -1 by unfold famN; rw [if_neg h4, if_neg h6])
  clear h4 h6
  go_enter Tryz.func123, Tryz.ntmps123
  go_wp2
  go_ret
  exact ⟨int_eq HK.out.symm, rfl⟩
theorem fam_0 (a : ByteArray) : (famN a == 0) = decide (a.size = 4) := by
  unfold famN
  by_cases h4 : a.size = 4
  · rw [if_pos h4, decide_eq_true h4]; rfl
  · rw [if_neg h4, decide_eq_false h4]
    split <;> rfl
theorem fam_1 (a : ByteArray) : (famN a == 1) = decide (a.size = 16) := by
  unfold famN
  by_cases h4 : a.size = 4
  · rw [if_pos h4, decide_eq_false (by omega)]; rfl
  · rw [if_neg h4]
    by_cases h6 : a.size = 16
    · rw [if_pos h6, decide_eq_true h6]; rfl
    · rw [if_neg h6, decide_eq_false h6]; rfl
theorem address_any (ae : Int) (a : ByteArray) (w : World) : Calls Tryz.prog 120 #[.int .i64 ae, .string a] w fun e w' => e = .returned (.bool (adrB ae a)) ∧ w = w' := by
  by_cases h0 : ae = 0
  · subst h0
    have HK := Lib.hid (show adrB 0 a = decide (a.size = 0) from rfl)
    have he := nil_eq a
    have he2 := nil_em a
    generalize decide (a.size = 0) = z at *
    generalize adrB 0 a = y at *
    go_enter Tryz.func120, Tryz.ntmps120
    go_wp2
    go_ret
    exact ⟨bool_eq HK.out.symm, rfl⟩
  by_cases h1 : ae = 1
  · subst h1
    have HK := Lib.hid (show adrB 1 a = decide (a.size = 4) from rfl)
    have PF := Lib.hid (fun V => family_any a V)
    have he := fam_0 a
    generalize decide (a.size = 4) = z at *
    generalize adrB 1 a = y at *
    generalize famN a = f at *
    go_enter Tryz.func120, Tryz.ntmps120
    go_wp2_with fail
    refine (PF.out _).mono ?_
    rintro e w' ⟨rfl, rfl⟩
    go_wp2
    go_ret
    exact ⟨bool_eq HK.out.symm, rfl⟩
  by_cases h2 : ae = 2
  · subst h2
    have HK := Lib.hid (show adrB 2 a = decide (a.size = 16) from rfl)
    have PF := Lib.hid (fun V => family_any a V)
    have he := fam_1 a
    generalize decide (a.size = 16) = z at *
    generalize adrB 2 a = y at *
    generalize famN a = f at *
    go_enter Tryz.func120, Tryz.ntmps120
    go_wp2_with fail
    refine (PF.out _).mono ?_
    rintro e w' ⟨rfl, rfl⟩
    go_wp2
    go_ret
    exact ⟨bool_eq HK.out.symm, rfl⟩
  by_cases h3 : ae = 3
  · subst h3
    have HK := Lib.hid (show adrB 3 a = link a from rfl)
    have PF := Lib.hid (fun V => link_any a V)
    generalize link a = z at *
    generalize adrB 3 a = y at *
    go_enter Tryz.func120, Tryz.ntmps120
    go_wp2_with fail
    refine (PF.out _).mono ?_
    rintro e w' ⟨rfl, rfl⟩
    go_wp2
    go_ret
    exact ⟨bool_eq HK.out.symm, rfl⟩
  have HK := Lib.hid (show adrB ae a = false by unfold adrB; rw [if_neg h0, if_neg h1, if_neg h2, if_neg h3])
  have e0 : (ae == 0) = false := by simpa using h0
  have e1 : (ae == 1) = false := by simpa using h1
  have e2 : (ae == 2) = false := by simpa using h2
  have e3 : (ae == 3) = false := by simpa using h3
  go_enter Tryz.func120, Tryz.ntmps120
  go_wp2
  go_ret
  exact ⟨bool_eq HK.out.symm, rfl⟩
set_option maxHeartbeats 1600000 in
theorem in_any (ae : Int) (a : ByteArray) (p : Int) (w : World) (ha : a.size ≤ maxLen) (ht : Tab w) : Calls Tryz.prog 99 #[.int .i64 ae, .string a, .int .i64 p] w fun e w' => e = .returned (.bool (inB ae a p)) ∧ Below w.heap.size w w' := by
  have P1 := Lib.hid (fun V => address_any ae a V)
  have P2 := Lib.hid (length_any ae p w ht)
  have P3 := Lib.hid (fun V => Pre.right_any a p V ha)
  have HK := Lib.hid (show inB ae a p = (adrB ae a && (lenB ae p && (decide (ae = 0) || rightZ a p))) from rfl)
  clear ht ha
  generalize inB ae a p = y at *
  generalize adrB ae a = x1 at *
  generalize lenB ae p = x2 at *
  generalize rightZ a p = x3 at *
  cases x1
  · go_enter Tryz.func99, Tryz.ntmps99
    go_wp2_with fail
    refine (P1.out _).mono ?_
    rintro r w' ⟨rfl, rfl⟩
    go_wp2
    go_ret
    exact ⟨bool_eq HK.out.symm, Below.refl _ _⟩
  cases x2
  · go_enter Tryz.func99, Tryz.ntmps99
    go_wp2_with fail
    refine (P1.out _).mono ?_
    rintro r w' ⟨rfl, rfl⟩
    go_wp2_with fail
    refine (P2.out).mono ?_
    rintro r w' ⟨rfl, rfl⟩
    go_wp2
    go_ret
    exact ⟨bool_eq HK.out.symm, Below.refl _ _⟩
  by_cases h0 : ae = 0
  · subst h0
    go_enter Tryz.func99, Tryz.ntmps99
    go_wp2_with fail
    refine (P1.out _).mono ?_
    rintro r w' ⟨rfl, rfl⟩
    go_wp2_with fail
    refine (P2.out).mono ?_
    rintro r w' ⟨rfl, rfl⟩
    go_wp2
    go_ret
    exact ⟨bool_eq HK.out.symm, Below.refl _ _⟩
  have e0 : (ae == 0) = false := by simpa using h0
  rw [decide_eq_false h0] at HK
  clear h0
  go_enter Tryz.func99, Tryz.ntmps99
  go_wp2_with fail
  refine (P1.out _).mono ?_
  rintro r w' ⟨rfl, rfl⟩
  go_wp2_with fail
  refine (P2.out).mono ?_
  rintro r w' ⟨rfl, rfl⟩
  go_wp2_with fail
  refine (P3.out _).mono ?_
  rintro r w' ⟨rfl, hb⟩
  go_wp2
  go_ret
  exact ⟨bool_eq HK.out.symm, hb⟩
theorem count_any (ae p : Int) (w : World) (h : lenB ae p = true) : Calls Tryz.prog 152 #[.int .i64 ae, .int .i64 p] w fun e w' => e = .returned (.int .i64 (countN ae p : Nat)) ∧ w = w' := by
  have hr := len_range h
  have hc := count_le h
  have P1 := Lib.hid (fun V => Pre.least_any p V (by omega))
  by_cases h3 : ae = 3
  · subst h3
    have HK0 : ((countN 3 p : Nat) : Int) = (leastN p : Int) - 8 := by have : baseN 3 = 8 := rfl; omega
    have hw : wrap64 ((leastN p : Int) - 8) = (leastN p : Int) - 8 := IntWalk.wrap64_in _ ⟨by omega, by have := hc.1; have : baseN 3 = 8 := rfl; omega⟩
    have HK := Lib.hid (hw.trans HK0.symm)
    clear hw HK0
    generalize countN 3 p = c at *
    generalize leastN p = n at *
    clear hr hc h
    go_enter Tryz.func152, Tryz.ntmps152
    go_wp2_with fail
    refine (P1.out _).mono ?_
    rintro r w' ⟨rfl, rfl⟩
    go_wp2
    go_ret
    exact ⟨int_eq HK.out, rfl⟩
  have HK := Lib.hid (show ((countN ae p : Nat) : Int) = (leastN p : Int) from by
    have : baseN ae = 0 := by unfold baseN; rw [if_neg h3]
    omega)
  have e3 : (ae == 3) = false := by simpa using h3
  generalize countN ae p = c at *
  generalize leastN p = n at *
  clear hr hc h
  go_enter Tryz.func152, Tryz.ntmps152
  go_wp2_with fail
  refine (P1.out _).mono ?_
  rintro r w' ⟨rfl, rfl⟩
  go_wp2
  go_ret
  exact ⟨int_eq HK.out.symm, rfl⟩
theorem adr_size {ae : Int} {a : ByteArray} {p : Int} (h : inB ae a p = true) : a.size ≤ 16 := by
  rcases (in_cases h).2 with ⟨_, h0⟩ | ⟨⟨_, h0⟩ | ⟨_, h0⟩ | ⟨_, h0⟩, _⟩
  · omega
  · omega
  · omega
  · have := link_size h0; omega
theorem cutL_len {ae : Int} {a : ByteArray} {p : Int} (h : inB ae a p = true) : (cutL a.data.toList p).length = leastN p := by
  have h1 := cut_size h
  have h2 := (count_le (in_cases h).1).2
  unfold cutP at h1
  rw [mk_size, List.length_drop] at h1
  rcases (in_cases h).2 with ⟨rfl, h0⟩ | ⟨hc, h8, _⟩
  · have : baseN 0 = 0 := rfl
    omega
  · unfold cutL
    have := (len_range (in_cases h).1).2.2.1
    rw [List.length_take, keepL_length, size_list, Nat.min_eq_left (by unfold leastN; omega)]
set_option maxHeartbeats 1600000 in
theorem cut_any (ae : Int) (a : ByteArray) (p : Int) (w : World) (h : inB ae a p = true) : Calls Tryz.prog 137 #[.int .i64 ae, .string a, .int .i64 p] w fun e w' => e = .returned (.string (cutP ae a p)) ∧ Below w.heap.size w w' := by
  have hl := (in_cases h).1
  have hr := len_range hl
  have hc := count_le hl
  have hz := cutL_len h
  have ha := adr_size h
  have P1 := Lib.hid (fun V => Pre.cut_any a p V (by omega) (by omega))
  have P2 := Lib.hid (fun V => count_any ae p V hl)
  have hs : (ByteArray.mk (cutL a.data.toList p).toArray).size = leastN p := by rw [mk_size, hz]
  have HK := Lib.hid (show (ByteArray.mk (cutL a.data.toList p).toArray).extract (baseN ae) (leastN p) = cutP ae a p from text_eq (by
    rw [Nu.ext_list]
    show ((cutL a.data.toList p).drop (baseN ae)).take (leastN p - baseN ae) = (cutL a.data.toList p).drop (baseN ae)
    exact List.take_of_length_le (by rw [List.length_drop, hz]; exact Nat.le_refl _)))
  generalize ByteArray.mk (cutL a.data.toList p).toArray = x at *
  generalize cutP ae a p = y at *
  have hsl : ∀ wx, Sem.run Tryz.prog (Instr.slice 9 (Value.string x) (some (Value.int IntKind.i64 ((x.size : Int) - (countN ae p : Int)))) none none) wx = .ok (.string y) wx := fun wx => by
    have := F2.sl_l x ((x.size : Int) - (countN ae p : Int)) (baseN ae) (leastN p) (by omega) (by omega) hs wx
    rw [HK.out] at this
    exact this
  have hln : leastN p ≤ 16 := by unfold leastN; omega
  have hw : wrap64 ((x.size : Int) - (countN ae p : Int)) = (x.size : Int) - (countN ae p : Int) := IntWalk.wrap64_in _ ⟨by omega, by omega⟩
  clear hln
  generalize countN ae p = c at *
  clear hl hr hc hz ha hs h HK
  go_enter Tryz.func137, Tryz.ntmps137
  go_wp2_with fail
  refine (P1.out _).mono ?_
  rintro r w' ⟨rfl, hb⟩
  go_wp2_with fail
  refine (P2.out _).mono ?_
  rintro r w' ⟨rfl, rfl⟩
  go_wp2
  go_ret
  exact ⟨rfl, hb⟩
theorem seq_is (m : M) : seqB m = (!decide (m.ae = 0) && (fitsB m.seq 2 && (decide (m.id.size = 8) && (decide (1 ≤ m.hops) && fitsB m.hops 1)))) := rfl
set_option maxHeartbeats 3200000 in
theorem kind_any (m : M) (w : World) : Calls Tryz.prog 102 #[.agg m.cells] w fun e w' => e = .returned (.bool (kindB m)) ∧ Below w.heap.size w w' := by
  have HB := Lib.hid (balloc (Below.refl _ w) (.cells m.cells 38))
  have b0 := Bx.new w m
  by_cases h12 : m.kind = 12
  · have HK := Lib.hid (show kindB m = true by unfold kindB; rw [if_pos h12])
    go_enter Tryz.func102, Tryz.ntmps102
    go_upto_region 1 with fail
    generalize w.alloc (.cells m.cells 38) = V at *
    have c0 := b0.cs.c0
    have c5 := b0.cs.c5
    have c11 := b0.cs.c11
    have c12 := b0.cs.c12
    have c16 := b0.cs.c16
    clear b0
    rw [h12] at c0
    go_wp2
    go_ret
    exact ⟨bool_eq HK.out.symm, HB.out⟩
  by_cases h13 : m.kind = 13
  rotate_left
  · have HK := Lib.hid (show kindB m = false by unfold kindB; rw [if_neg h12, if_neg h13])
    have e12 : (m.kind == 12) = false := by simpa using h12
    have e13 : (m.kind == 13) = false := by simpa using h13
    go_enter Tryz.func102, Tryz.ntmps102
    go_upto_region 1 with fail
    generalize w.alloc (.cells m.cells 38) = V at *
    have c0 := b0.cs.c0
    have c5 := b0.cs.c5
    have c11 := b0.cs.c11
    have c12 := b0.cs.c12
    have c16 := b0.cs.c16
    clear b0
    go_wp2
    go_ret
    exact ⟨bool_eq HK.out.symm, HB.out⟩
  have HK := Lib.hid (show kindB m = (!decide (m.ae = 0) && (fitsB m.seq 2 && (decide (m.id.size = 8) && (decide (1 ≤ m.hops) && fitsB m.hops 1)))) by unfold kindB; rw [if_neg h12, if_pos h13, seq_is])
  have P1 := Lib.hid (fun V => Oct.fits_any m.seq 2 V)
  have P2 := Lib.hid (fun V => Oct.fits_any m.hops 1 V)
  generalize kindB m = y at *
  generalize fitsB m.seq 2 = x1 at *
  generalize fitsB m.hops 1 = x2 at *
  by_cases h0 : m.ae = 0
  · rw [decide_eq_true h0] at HK
    go_enter Tryz.func102, Tryz.ntmps102
    go_upto_region 1 with fail
    generalize w.alloc (.cells m.cells 38) = V at *
    have c0 := b0.cs.c0
    have c5 := b0.cs.c5
    have c11 := b0.cs.c11
    have c12 := b0.cs.c12
    have c16 := b0.cs.c16
    clear b0
    rw [h13] at c0
    rw [h0] at c5
    clear h0 h12 h13
    go_wp2
    go_ret
    exact ⟨bool_eq HK.out.symm, HB.out⟩
  have e0 : (m.ae == 0) = false := by simpa using h0
  have e1 : (m.ae != 0) = true := by rw [bne, e0]; rfl
  rw [decide_eq_false h0] at HK
  cases x1
  · go_enter Tryz.func102, Tryz.ntmps102
    go_upto_region 1 with fail
    generalize w.alloc (.cells m.cells 38) = V at *
    have c0 := b0.cs.c0
    have c5 := b0.cs.c5
    have c11 := b0.cs.c11
    have c12 := b0.cs.c12
    have c16 := b0.cs.c16
    clear b0
    rw [h13] at c0
    clear h0 h12 h13
    go_wp2_with fail
    refine (P1.out _).mono ?_
    rintro r w' ⟨rfl, rfl⟩
    go_wp2
    go_ret
    exact ⟨bool_eq HK.out.symm, HB.out⟩
  have e2 : ((m.id.size : Int) == 8) = decide (m.id.size = 8) := size_eq m.id 8
  by_cases h8 : m.id.size = 8
  rotate_left
  · rw [decide_eq_false h8] at HK e2
    clear h8
    go_enter Tryz.func102, Tryz.ntmps102
    go_upto_region 1 with fail
    generalize w.alloc (.cells m.cells 38) = V at *
    have c0 := b0.cs.c0
    have c5 := b0.cs.c5
    have c11 := b0.cs.c11
    have c12 := b0.cs.c12
    have c16 := b0.cs.c16
    clear b0
    rw [h13] at c0
    clear h0 h12 h13
    go_wp2_with fail
    refine (P1.out _).mono ?_
    rintro r w' ⟨rfl, rfl⟩
    go_wp2
    go_ret
    exact ⟨bool_eq HK.out.symm, HB.out⟩
  rw [decide_eq_true h8] at HK e2
  clear h8
  by_cases h1 : 1 ≤ m.hops
  rotate_left
  · rw [decide_eq_false h1] at HK
    go_enter Tryz.func102, Tryz.ntmps102
    go_upto_region 1 with fail
    generalize w.alloc (.cells m.cells 38) = V at *
    have c0 := b0.cs.c0
    have c5 := b0.cs.c5
    have c11 := b0.cs.c11
    have c12 := b0.cs.c12
    have c16 := b0.cs.c16
    clear b0
    rw [h13] at c0
    clear h0 h12 h13
    go_wp2_with fail
    refine (P1.out _).mono ?_
    rintro r w' ⟨rfl, rfl⟩
    go_wp2
    go_ret
    exact ⟨bool_eq HK.out.symm, HB.out⟩
  rw [decide_eq_true h1] at HK
  go_enter Tryz.func102, Tryz.ntmps102
  go_upto_region 1 with fail
  generalize w.alloc (.cells m.cells 38) = V at *
  have c0 := b0.cs.c0
  have c5 := b0.cs.c5
  have c11 := b0.cs.c11
  have c12 := b0.cs.c12
  have c16 := b0.cs.c16
  clear b0
  rw [h13] at c0
  clear h0 h12 h13
  go_wp2_with fail
  refine (P1.out _).mono ?_
  rintro r w' ⟨rfl, rfl⟩
  go_wp2_with fail
  refine (P2.out _).mono ?_
  rintro r w' ⟨rfl, rfl⟩
  go_wp2
  go_ret
  exact ⟨bool_eq HK.out.symm, HB.out⟩
theorem in_0 (a : ByteArray) (p : Int) : inB 0 a p = (decide (a.size = 0) && decide (p = 0)) := by
  unfold inB
  rw [show adrB 0 a = decide (a.size = 0) from rfl, show decide ((0 : Int) = 0) = true from rfl, Bool.true_or, Bool.and_true]
  congr 1
  rw [Bool.eq_iff_iff, decide_eq_true_eq]
  refine ⟨fun h => ?_, fun h => by subst h; rfl⟩
  rcases len_cases h with ⟨_, h⟩ | ⟨h, _⟩ | ⟨h, _⟩ | ⟨h, _⟩
  · exact h
  all_goals omega
theorem in_n {ae : Int} {a : ByteArray} {p : Int} {n : Nat} {z : Int} (h1 : 0 < ae) (h3 : ae ≤ 3) (hm : maxA ae = 8 * (n : Int)) (hz : minA ae = z) (h0 : 0 ≤ z) (hs : adrB ae a = true → a.size = n) : inB ae a p = (adrB ae a && (decide (z ≤ p) && rightZ a p)) := by
  unfold inB
  rw [decide_eq_false (show ¬ ae = 0 by omega), Bool.false_or]
  cases h : adrB ae a
  · rfl
  cases hr : rightZ a p
  · simp
  obtain ⟨r0, r8, _⟩ := right_cases hr
  rw [hs h] at r8
  rw [len_is, decide_eq_true (show 0 ≤ ae by omega), decide_eq_true h3, decide_eq_true (show p ≤ maxA ae by omega), hz]
  simp
set_option maxHeartbeats 3200000 in
theorem rin_any (ae : Int) (a : ByteArray) (p : Int) (w : World) (ha : a.size ≤ maxLen) : Calls Tryz.prog 58 #[.int .i64 ae, .string a, .int .i64 p] w fun e w' => e = .returned (.bool (inB ae a p)) ∧ Below w.heap.size w w' := by
  have P3 := Lib.hid (fun V => Pre.rright_any a p V ha)
  clear ha
  by_cases h0 : ae = 0
  · subst h0
    have HK := Lib.hid (in_0 a p)
    have he := nil_eq a
    have he2 := nil_em a
    generalize decide (a.size = 0) = z at *
    generalize inB 0 a p = y at *
    cases z
    · go_enter Tryz.func58, Tryz.ntmps58
      go_wp2
      go_ret
      exact ⟨bool_eq HK.out.symm, Below.refl _ _⟩
    by_cases hp : p = 0
    · subst hp
      go_enter Tryz.func58, Tryz.ntmps58
      go_wp2
      go_ret
      exact ⟨bool_eq HK.out.symm, Below.refl _ _⟩
    · have ep : (p == 0) = false := by simpa using hp
      rw [decide_eq_false hp] at HK
      go_enter Tryz.func58, Tryz.ntmps58
      go_wp2
      go_ret
      exact ⟨bool_eq HK.out.symm, Below.refl _ _⟩
  by_cases h1 : ae = 1
  · subst h1
    have HK := Lib.hid (in_n (ae := 1) (a := a) (p := p) (n := 4) (z := 0) (by decide) (by decide) rfl rfl (by decide) (fun h => by simpa [adrB] using h))
    have HA := Lib.hid (show adrB 1 a = decide (a.size = 4) from rfl)
    have HR := Lib.hid (fun h : rightZ a p = true => (right_cases h).1)
    have he : ((a.size : Int) == 4) = decide (a.size = 4) := size_eq a 4
    rw [HA.out] at HK
    generalize decide (a.size = 4) = z at *
    generalize inB 1 a p = y at *
    have HK := Lib.hid (show y = (z && rightZ a p) from by
      rw [HK.out]
      cases hr : rightZ a p
      · rw [Bool.and_false]
      · rw [decide_eq_true (HR.out hr)]; rfl)
    clear HR HA
    generalize rightZ a p = x at *
    cases z
    · go_enter Tryz.func58, Tryz.ntmps58
      go_wp2
      go_ret
      exact ⟨bool_eq HK.out.symm, Below.refl _ _⟩
    go_enter Tryz.func58, Tryz.ntmps58
    go_wp2_with fail
    refine (P3.out _).mono ?_
    rintro r w' ⟨rfl, hb⟩
    go_wp2
    go_ret
    exact ⟨bool_eq HK.out.symm, hb⟩
  by_cases h2 : ae = 2
  · subst h2
    have HK := Lib.hid (in_n (ae := 2) (a := a) (p := p) (n := 16) (z := 0) (by decide) (by decide) rfl rfl (by decide) (fun h => by simpa [adrB] using h))
    have HA := Lib.hid (show adrB 2 a = decide (a.size = 16) from rfl)
    have HR := Lib.hid (fun h : rightZ a p = true => (right_cases h).1)
    have he : ((a.size : Int) == 16) = decide (a.size = 16) := size_eq a 16
    rw [HA.out] at HK
    generalize decide (a.size = 16) = z at *
    generalize inB 2 a p = y at *
    have HK := Lib.hid (show y = (z && rightZ a p) from by
      rw [HK.out]
      cases hr : rightZ a p
      · rw [Bool.and_false]
      · rw [decide_eq_true (HR.out hr)]; rfl)
    clear HR HA
    generalize rightZ a p = x at *
    cases z
    · go_enter Tryz.func58, Tryz.ntmps58
      go_wp2
      go_ret
      exact ⟨bool_eq HK.out.symm, Below.refl _ _⟩
    go_enter Tryz.func58, Tryz.ntmps58
    go_wp2_with fail
    refine (P3.out _).mono ?_
    rintro r w' ⟨rfl, hb⟩
    go_wp2
    go_ret
    exact ⟨bool_eq HK.out.symm, hb⟩
  by_cases h3 : ae = 3
  · subst h3
    have HK := Lib.hid (in_n (ae := 3) (a := a) (p := p) (n := 16) (z := 64) (by decide) (by decide) rfl rfl (by decide) (fun h => link_size h))
    have PL := Lib.hid (fun V => rlink_bel a V)
    have HA := Lib.hid (show adrB 3 a = link a from rfl)
    rw [HA.out] at HK
    generalize link a = z at *
    generalize inB 3 a p = y at *
    generalize rightZ a p = x at *
    clear HA
    cases z
    · go_enter Tryz.func58, Tryz.ntmps58
      go_wp2_with fail
      refine (PL.out _).mono ?_
      rintro r w' ⟨rfl, hb⟩
      go_wp2
      go_ret
      exact ⟨bool_eq HK.out.symm, hb⟩
    by_cases hp : 64 ≤ p
    rotate_left
    · rw [decide_eq_false hp] at HK
      go_enter Tryz.func58, Tryz.ntmps58
      go_wp2_with fail
      refine (PL.out _).mono ?_
      rintro r w' ⟨rfl, hb⟩
      go_wp2
      go_ret
      exact ⟨bool_eq HK.out.symm, hb⟩
    rw [decide_eq_true hp] at HK
    go_enter Tryz.func58, Tryz.ntmps58
    go_wp2_with fail
    refine (PL.out _).mono ?_
    rintro r w' ⟨rfl, hb⟩
    have HB := Lib.hid hb
    clear hb
    go_wp2_with fail
    refine (P3.out _).mono ?_
    rintro r w2 ⟨rfl, hb⟩
    go_wp2
    go_ret
    exact ⟨bool_eq HK.out.symm, bcall HB.out hb⟩
  have HK := Lib.hid (show inB ae a p = false by unfold inB adrB; rw [if_neg h0, if_neg h1, if_neg h2, if_neg h3]; rfl)
  have e0 : (ae == 0) = false := by simpa using h0
  have e1 : (ae == 1) = false := by simpa using h1
  have e2 : (ae == 2) = false := by simpa using h2
  have e3 : (ae == 3) = false := by simpa using h3
  go_enter Tryz.func58, Tryz.ntmps58
  go_wp2
  go_ret
  exact ⟨bool_eq HK.out.symm, Below.refl _ _⟩
theorem base_any (ae : Int) (w : World) : Calls Tryz.prog 42 #[.int .i64 ae] w fun e w' => e = .returned (.int .i64 (baseN ae : Nat)) ∧ w = w' := by
  by_cases h3 : ae = 3
  · subst h3
    have HK := Lib.hid (show ((baseN 3 : Nat) : Int) = 8 from rfl)
    go_enter Tryz.func42, Tryz.ntmps42
    go_wp2
    go_ret
    exact ⟨rfl, rfl⟩
  have HK := Lib.hid (show ((baseN ae : Nat) : Int) = 0 by unfold baseN; rw [if_neg h3]; rfl)
  have e3 : (ae == 3) = false := by simpa using h3
  go_enter Tryz.func42, Tryz.ntmps42
  go_wp2
  go_ret
  exact ⟨int_eq HK.out.symm, rfl⟩
theorem base_bel (ae : Int) (w : World) : Calls Tryz.prog 42 #[.int .i64 ae] w fun e w' => e = .returned (.int .i64 (baseN ae : Nat)) ∧ Below w.heap.size w w' := (base_any ae w).mono fun _ _ ⟨h, k⟩ => ⟨h, by subst k; exact Below.refl _ _⟩
set_option maxHeartbeats 1600000 in
theorem rbytes_any (m : M) (w : World) (hm : m.In w) (h : inB m.ae m.pfx m.plen = true) : Calls Tryz.prog 43 #[.agg m.cells] w fun e w' => e = .returned (.string (cutP m.ae m.pfx m.plen)) ∧ Below w.heap.size w w' := by
  have hl := (in_cases h).1
  have hr := len_range hl
  have hc := count_le hl
  have hz := cutL_len h
  have ha := adr_size h
  have HF := Lib.hid (Fs.new w m hm)
  have P1 := Lib.hid (fun V => Pre.rcut_any m.pfx m.plen V (by omega) (by omega))
  have P2 := Lib.hid (fun V => base_bel m.ae V)
  have hs : (ByteArray.mk (cutL m.pfx.data.toList m.plen).toArray).size = leastN m.plen := by rw [mk_size, hz]
  have HK := Lib.hid (show (ByteArray.mk (cutL m.pfx.data.toList m.plen).toArray).extract (baseN m.ae) (leastN m.plen) = cutP m.ae m.pfx m.plen from text_eq (by
    rw [Nu.ext_list]
    show ((cutL m.pfx.data.toList m.plen).drop (baseN m.ae)).take (leastN m.plen - baseN m.ae) = (cutL m.pfx.data.toList m.plen).drop (baseN m.ae)
    exact List.take_of_length_le (by rw [List.length_drop, hz]; exact Nat.le_refl _)))
  generalize ByteArray.mk (cutL m.pfx.data.toList m.plen).toArray = x at *
  generalize cutP m.ae m.pfx m.plen = y at *
  have hsl : ∀ wx, Sem.run Tryz.prog (Instr.slice 9 (Value.string x) (some (Value.int IntKind.i64 (baseN m.ae : Nat))) none none) wx = .ok (.string y) wx := fun wx => by
    have := F2.sl_l x (baseN m.ae : Nat) (baseN m.ae) (leastN m.plen) rfl (by omega) hs wx
    rw [HK.out] at this
    exact this
  generalize hba : baseN m.ae = bn at *
  clear hl hr hc hz ha hs h HK hba hm
  go_enter Tryz.func43, Tryz.ntmps43
  go_upto_region 1 with fail
  refine wp_region_held_drew (S := fun W => Fs w W w.heap.size m) (by kernel_rfl) HF.out.drew (fun hS => ?_)
  clear HF
  generalize World.drew _ = X0 at *
  refine H.tk (i := 0) (v := ?v0) ?h0 hS ?_
  case h0 => (intro w hw; go_simp; first | done | (with_reducible rfl))
  try simp only [Act.put, List.setIfInBounds_toArray, List.set_cons_zero, List.set_cons_succ]
  refine H.tk (i := 1) (v := ?v1) ?h1 hS ?_
  case h1 => (intro w hw; have c := (hw.m).cs.c6; go_simp; first | done | (with_reducible rfl))
  try simp only [Act.put, List.setIfInBounds_toArray, List.set_cons_zero, List.set_cons_succ]
  refine H.tk (i := 2) (v := ?v2) ?h2 hS ?_
  case h2 => (intro w hw; go_simp; first | done | (with_reducible rfl))
  try simp only [Act.put, List.setIfInBounds_toArray, List.set_cons_zero, List.set_cons_succ]
  refine H.tk (i := 3) (v := ?v3) ?h3 hS ?_
  case h3 => (intro w hw; have c := (hw.m).cs.c7; go_simp; first | done | (with_reducible rfl))
  try simp only [Act.put, List.setIfInBounds_toArray, List.set_cons_zero, List.set_cons_succ]
  refine H.tk (i := 5) (v := ?v5) ?h5 hS ?_
  case h5 => (intro w hw; go_simp; first | done | (with_reducible rfl))
  try simp only [Act.put, List.setIfInBounds_toArray, List.set_cons_zero, List.set_cons_succ]
  refine H.tk (i := 6) (v := ?v6) ?h6 hS ?_
  case h6 => (intro w hw; have c := (hw.m).cs.c5; go_simp; first | done | (with_reducible rfl))
  try simp only [Act.put, List.setIfInBounds_toArray, List.set_cons_zero, List.set_cons_succ]
  refine wpAnyH_ready (rs := [4]) (by kernel_rfl) (by simp) ?_
  refine AllReadyH.cons rfl (fun K hK => ?_) AllReadyH.nil
  go_simp
  refine (heldF (P1.out _) hS).mono ?_
  rintro e w4 ⟨rfl, hS4⟩
  refine hK.out _ _ hS4 (fun _ => ?_)
  clear hK K hS
  have hS := hS4
  clear hS4
  try simp only [Act.put, List.setIfInBounds_toArray, List.set_cons_zero, List.set_cons_succ]
  refine wpAnyH_ready (rs := [7]) (by kernel_rfl) (by simp) ?_
  refine AllReadyH.cons rfl (fun K hK => ?_) AllReadyH.nil
  go_simp
  refine (heldF (P2.out _) hS).mono ?_
  rintro e w7 ⟨rfl, hS7⟩
  refine hK.out _ _ hS7 (fun _ => ?_)
  clear hK K hS
  have hS := hS7
  clear hS7
  try simp only [Act.put, List.setIfInBounds_toArray, List.set_cons_zero, List.set_cons_succ]
  refine H.tk (i := 8) (v := .string y) ?h8 hS ?_
  case h8 => exact (fun w hw => by go_simp)
  try simp only [Act.put, List.setIfInBounds_toArray, List.set_cons_zero, List.set_cons_succ]
  refine H.tk (i := 9) (v := (.string y)) (fun w _ => rfl) hS ?_
  try simp only [Act.put, List.setIfInBounds_toArray, List.set_cons_zero, List.set_cons_succ]
  refine wpAnyH_done (by kernel_rfl) ?_ _
  go_wp2
  go_ret
  exact ⟨rfl, hS.bel⟩
end Go.Proofs.YtjhfpobjbijcpaaGreatDoor.J2
