/-
  Whether a prefix is one in an encoding, whether a message may be, a prefix's bytes and the prefix of bytes: the program's answers and the document's. Conditions: the message's lists stand in the world, and aren't long; the variable has what it is laid with.
  The library's contracts laid at this program, in plain words: each laying is a table of numbers and one theorem; each contract one application. No condition beyond those that each states.
-/
import Derived.Test.YtjhfpobjbijcpaaDoorA07
import Derived.Test.YtjhfpobjbijcpaaDoorA11
import Derived.Test.YtjhfpobjbijcpaaDoorA12
import Derived.Test.YtjhfpobjbijcpaaDoorA13
import Derived.Shelf.Strings.Builder1
import Derived.Shelf.Strings.Builder2
import Derived.Test.YtjhfpobjbijcpaaDoorProg
namespace Go.Proofs.YtjhfpobjbijcpaaDoor.J2
open Go.ChangeShapes Go.WideShapes Go.ChangeAt Go.RowKit
open Go.Proofs.YtjhfpobjbijcpaaDoor.Ms
open Go.Proofs.YtjhfpobjbijcpaaDoor.Box
open Go.Proofs.YtjhfpobjbijcpaaDoor.S1
open Go.Proofs.YtjhfpobjbijcpaaDoor.Lk
open Go.Proofs.YtjhfpobjbijcpaaDoor.Nu (text_eq)
open Go.Proofs.YtjhfpobjbijcpaaDoor.J1
open Go.Proofs.YtjhfpobjbijcpaaDoor.An
open Go.Proofs.YtjhfpobjbijcpaaDoor.Tc
open Go.Proofs.YtjhfpobjbijcpaaDoor.Oct (fitsB)
open Go.Proofs.YtjhfpobjbijcpaaDoor.Bits (keepL keepL_length)
open Go.Proofs.YtjhfpobjbijcpaaDoor.Pre (leastN cutL fillL rightZ)
open Go.Proofs.YtjhfpobjbijcpaaDoor.Hs
open Go.Proofs.YtjhfpobjbijcpaaDoor.Or (st_yes)
set_option linter.unusedVariables false
set_option maxRecDepth 100000
set_option maxRecDepth 100000
theorem bool_eq {a b : Bool} (h : a = b) : Ending.returned (.bool a) = .returned (.bool b) := by rw [h]
theorem int_eq {a b : Int} (h : a = b) : Ending.returned (.int .i64 a) = .returned (.int .i64 b) := by rw [h]
theorem pair_eq {s t : ByteArray} {b c : Bool} (h : s = t) (k : b = c) : Ending.returned (.tuple #[.string s, .bool b]) = .returned (.tuple #[.string t, .bool c]) := by rw [h, k]
theorem len_is (ae p : Int) : lenB ae p = (decide (0 ≤ ae) && (decide (ae ≤ 3) && (decide (minA ae ≤ p) && decide (p ≤ maxA ae)))) := rfl
theorem size_eq (a : ByteArray) (k : Nat) : ((a.size : Int) == (k : Int)) = decide (a.size = k) := by rw [Bool.eq_iff_iff]; simp; omega
theorem nil_eq (a : ByteArray) : (a.toList == ([] : List UInt8)) = decide (a.size = 0) := by
  rw [Bool.eq_iff_iff, beq_iff_eq, decide_eq_true_eq, ByteArray.toList_eq, ← size_list, List.length_eq_zero_iff]
theorem nil_em (a : ByteArray) : a.toList.isEmpty = decide (a.size = 0) := by rw [← nil_eq]; cases a.toList <;> rfl
theorem ae_any (n : Int) (w : World) : Calls Tryd.prog 73 #[.int .i64 n] w fun e w' => e = .returned (.bool (decide (0 ≤ n ∧ n ≤ 3))) ∧ w = w' := by
  by_cases h0 : 0 ≤ n
  rotate_left
  · rw [decide_eq_false (fun h => h0 h.1)]
    go_enter Tryd.func73, Tryd.ntmps73
    go_wp2
    go_ret
    exact ⟨rfl, rfl⟩
  by_cases h1 : n ≤ 3
  rotate_left
  · rw [decide_eq_false (fun h => h1 h.2)]
    go_enter Tryd.func73, Tryd.ntmps73
    go_wp2
    go_ret
    exact ⟨bool_eq (decide_eq_false (by omega)), rfl⟩
  rw [decide_eq_true ⟨h0, h1⟩]
  go_enter Tryd.func73, Tryd.ntmps73
  go_wp2
  go_ret
  exact ⟨bool_eq (decide_eq_true (by omega)), rfl⟩
set_option maxHeartbeats 1600000 in
theorem length_any (ae p : Int) (w : World) (ht : Tab w) : Calls Tryd.prog 51 #[.int .i64 ae, .int .i64 p] w fun e w' => e = .returned (.bool (lenB ae p)) ∧ w = w' := by
  have PA := Lib.hid (fun V => ae_any ae V)
  by_cases hi : 0 ≤ ae ∧ ae ≤ 3
  rotate_left
  · have HK := Lib.hid (show lenB ae p = false from by
      cases h : lenB ae p
      · rfl
      · exact absurd ⟨(len_range h).1, (len_range h).2.1⟩ hi)
    rw [decide_eq_false hi] at PA
    clear ht hi
    go_enter Tryd.func51, Tryd.ntmps51
    go_wp2_with fail
    refine (PA.out _).mono ?_
    rintro e w' ⟨rfl, rfl⟩
    go_wp2
    go_ret
    exact ⟨bool_eq HK.out.symm, rfl⟩
  rw [decide_eq_true hi] at PA
  obtain ⟨s0, s1, s2, s3, s4, s5, s6, s7⟩ := ht
  rcases (show ae = 0 ∨ ae = 1 ∨ ae = 2 ∨ ae = 3 by omega) with rfl | rfl | rfl | rfl
  · by_cases h0 : 0 ≤ p
    rotate_left
    · have HK := Lib.hid (show lenB 0 p = false from by rw [len_is, decide_eq_false (show ¬ minA 0 ≤ p from h0)]; rfl)
      clear hi
      go_enter Tryd.func51, Tryd.ntmps51
      go_wp2_with fail
      refine (PA.out _).mono ?_
      rintro e w' ⟨rfl, rfl⟩
      go_wp2
      go_ret
      exact ⟨bool_eq HK.out.symm, rfl⟩
    by_cases h1 : p ≤ 0
    rotate_left
    · have HK := Lib.hid (show lenB 0 p = false from by rw [len_is, decide_eq_false (show ¬ p ≤ maxA 0 from h1), Bool.and_false, Bool.and_false, Bool.and_false])
      have hq : decide (p ≤ 0) = false := decide_eq_false h1
      clear hi
      go_enter Tryd.func51, Tryd.ntmps51
      go_wp2_with fail
      refine (PA.out _).mono ?_
      rintro e w' ⟨rfl, rfl⟩
      go_wp2
      go_ret
      exact ⟨bool_eq HK.out.symm, rfl⟩
    have HK := Lib.hid (show lenB 0 p = true from by rw [len_is, decide_eq_true (show minA 0 ≤ p from h0), decide_eq_true (show p ≤ maxA 0 from h1)]; rfl)
    have hq : decide (p ≤ 0) = true := decide_eq_true h1
    clear hi
    go_enter Tryd.func51, Tryd.ntmps51
    go_wp2_with fail
    refine (PA.out _).mono ?_
    rintro e w' ⟨rfl, rfl⟩
    go_wp2
    go_ret
    exact ⟨bool_eq HK.out.symm, rfl⟩
  · by_cases h0 : 0 ≤ p
    rotate_left
    · have HK := Lib.hid (show lenB 1 p = false from by rw [len_is, decide_eq_false (show ¬ minA 1 ≤ p from h0)]; rfl)
      clear hi
      go_enter Tryd.func51, Tryd.ntmps51
      go_wp2_with fail
      refine (PA.out _).mono ?_
      rintro e w' ⟨rfl, rfl⟩
      go_wp2
      go_ret
      exact ⟨bool_eq HK.out.symm, rfl⟩
    by_cases h1 : p ≤ 32
    rotate_left
    · have HK := Lib.hid (show lenB 1 p = false from by rw [len_is, decide_eq_false (show ¬ p ≤ maxA 1 from h1), Bool.and_false, Bool.and_false, Bool.and_false])
      have hq : decide (p ≤ 32) = false := decide_eq_false h1
      clear hi
      go_enter Tryd.func51, Tryd.ntmps51
      go_wp2_with fail
      refine (PA.out _).mono ?_
      rintro e w' ⟨rfl, rfl⟩
      go_wp2
      go_ret
      exact ⟨bool_eq HK.out.symm, rfl⟩
    have HK := Lib.hid (show lenB 1 p = true from by rw [len_is, decide_eq_true (show minA 1 ≤ p from h0), decide_eq_true (show p ≤ maxA 1 from h1)]; rfl)
    have hq : decide (p ≤ 32) = true := decide_eq_true h1
    clear hi
    go_enter Tryd.func51, Tryd.ntmps51
    go_wp2_with fail
    refine (PA.out _).mono ?_
    rintro e w' ⟨rfl, rfl⟩
    go_wp2
    go_ret
    exact ⟨bool_eq HK.out.symm, rfl⟩
  · by_cases h0 : 0 ≤ p
    rotate_left
    · have HK := Lib.hid (show lenB 2 p = false from by rw [len_is, decide_eq_false (show ¬ minA 2 ≤ p from h0)]; rfl)
      clear hi
      go_enter Tryd.func51, Tryd.ntmps51
      go_wp2_with fail
      refine (PA.out _).mono ?_
      rintro e w' ⟨rfl, rfl⟩
      go_wp2
      go_ret
      exact ⟨bool_eq HK.out.symm, rfl⟩
    by_cases h1 : p ≤ 128
    rotate_left
    · have HK := Lib.hid (show lenB 2 p = false from by rw [len_is, decide_eq_false (show ¬ p ≤ maxA 2 from h1), Bool.and_false, Bool.and_false, Bool.and_false])
      have hq : decide (p ≤ 128) = false := decide_eq_false h1
      clear hi
      go_enter Tryd.func51, Tryd.ntmps51
      go_wp2_with fail
      refine (PA.out _).mono ?_
      rintro e w' ⟨rfl, rfl⟩
      go_wp2
      go_ret
      exact ⟨bool_eq HK.out.symm, rfl⟩
    have HK := Lib.hid (show lenB 2 p = true from by rw [len_is, decide_eq_true (show minA 2 ≤ p from h0), decide_eq_true (show p ≤ maxA 2 from h1)]; rfl)
    have hq : decide (p ≤ 128) = true := decide_eq_true h1
    clear hi
    go_enter Tryd.func51, Tryd.ntmps51
    go_wp2_with fail
    refine (PA.out _).mono ?_
    rintro e w' ⟨rfl, rfl⟩
    go_wp2
    go_ret
    exact ⟨bool_eq HK.out.symm, rfl⟩
  · by_cases h0 : 64 ≤ p
    rotate_left
    · have HK := Lib.hid (show lenB 3 p = false from by rw [len_is, decide_eq_false (show ¬ minA 3 ≤ p from h0)]; rfl)
      clear hi
      go_enter Tryd.func51, Tryd.ntmps51
      go_wp2_with fail
      refine (PA.out _).mono ?_
      rintro e w' ⟨rfl, rfl⟩
      go_wp2
      go_ret
      exact ⟨bool_eq HK.out.symm, rfl⟩
    by_cases h1 : p ≤ 128
    rotate_left
    · have HK := Lib.hid (show lenB 3 p = false from by rw [len_is, decide_eq_false (show ¬ p ≤ maxA 3 from h1), Bool.and_false, Bool.and_false, Bool.and_false])
      have hq : decide (p ≤ 128) = false := decide_eq_false h1
      clear hi
      go_enter Tryd.func51, Tryd.ntmps51
      go_wp2_with fail
      refine (PA.out _).mono ?_
      rintro e w' ⟨rfl, rfl⟩
      go_wp2
      go_ret
      exact ⟨bool_eq HK.out.symm, rfl⟩
    have HK := Lib.hid (show lenB 3 p = true from by rw [len_is, decide_eq_true (show minA 3 ≤ p from h0), decide_eq_true (show p ≤ maxA 3 from h1)]; rfl)
    have hq : decide (p ≤ 128) = true := decide_eq_true h1
    clear hi
    go_enter Tryd.func51, Tryd.ntmps51
    go_wp2_with fail
    refine (PA.out _).mono ?_
    rintro e w' ⟨rfl, rfl⟩
    go_wp2
    go_ret
    exact ⟨bool_eq HK.out.symm, rfl⟩
def famN (a : ByteArray) : Int := if a.size = 4 then 0 else if a.size = 16 then 1 else -1
theorem family_any (s : ByteArray) (w : World) : Calls Tryd.prog 53 #[.string s] w fun e w' => e = .returned (.int .i64 (famN s)) ∧ w = w' := by
  by_cases h4 : s.size = 4
  · have HK := Lib.hid (show famN s = 0 by unfold famN; rw [if_pos h4])
    have e0 : ((s.size : Int) == 4) = true := by rw [beq_iff_eq]; omega
    clear h4
    go_enter Tryd.func53, Tryd.ntmps53
    go_wp2
    go_ret
    exact ⟨int_eq HK.out.symm, rfl⟩
  have e0 : ((s.size : Int) == 4) = false := by rw [beq_eq_false_iff_ne]; omega
  by_cases h6 : s.size = 16
  · have HK := Lib.hid (show famN s = 1 by unfold famN; rw [if_neg h4, if_pos h6])
    have e1 : ((s.size : Int) == 16) = true := by rw [beq_iff_eq]; omega
    clear h4 h6
    go_enter Tryd.func53, Tryd.ntmps53
    go_wp2
    go_ret
    exact ⟨int_eq HK.out.symm, rfl⟩
  have e1 : ((s.size : Int) == 16) = false := by rw [beq_eq_false_iff_ne]; omega
  have HK := Lib.hid (show famN s = -1 by unfold famN; rw [if_neg h4, if_neg h6])
  clear h4 h6
  go_enter Tryd.func53, Tryd.ntmps53
  go_wp2
  go_ret
  exact ⟨int_eq HK.out.symm, rfl⟩
theorem fam_0 (a : ByteArray) : (famN a == 0) = decide (a.size = 4) := by
  unfold famN
  by_cases h4 : a.size = 4
  · rw [if_pos h4, decide_eq_true h4]; rfl
  · rw [if_neg h4, decide_eq_false h4]
    split <;> rfl
theorem fam_1 (a : ByteArray) : (famN a == 1) = decide (a.size = 16) := by
  unfold famN
  by_cases h4 : a.size = 4
  · rw [if_pos h4, decide_eq_false (by omega)]; rfl
  · rw [if_neg h4]
    by_cases h6 : a.size = 16
    · rw [if_pos h6, decide_eq_true h6]; rfl
    · rw [if_neg h6, decide_eq_false h6]; rfl
theorem address_any (ae : Int) (a : ByteArray) (w : World) : Calls Tryd.prog 50 #[.int .i64 ae, .string a] w fun e w' => e = .returned (.bool (adrB ae a)) ∧ w = w' := by
  by_cases h0 : ae = 0
  · subst h0
    have HK := Lib.hid (show adrB 0 a = decide (a.size = 0) from rfl)
    have he := nil_eq a
    have he2 := nil_em a
    generalize decide (a.size = 0) = z at *
    generalize adrB 0 a = y at *
    go_enter Tryd.func50, Tryd.ntmps50
    go_wp2
    go_ret
    exact ⟨bool_eq HK.out.symm, rfl⟩
  by_cases h1 : ae = 1
  · subst h1
    have HK := Lib.hid (show adrB 1 a = decide (a.size = 4) from rfl)
    have PF := Lib.hid (fun V => family_any a V)
    have he := fam_0 a
    generalize decide (a.size = 4) = z at *
    generalize adrB 1 a = y at *
    generalize famN a = f at *
    go_enter Tryd.func50, Tryd.ntmps50
    go_wp2_with fail
    refine (PF.out _).mono ?_
    rintro e w' ⟨rfl, rfl⟩
    go_wp2
    go_ret
    exact ⟨bool_eq HK.out.symm, rfl⟩
  by_cases h2 : ae = 2
  · subst h2
    have HK := Lib.hid (show adrB 2 a = decide (a.size = 16) from rfl)
    have PF := Lib.hid (fun V => family_any a V)
    have he := fam_1 a
    generalize decide (a.size = 16) = z at *
    generalize adrB 2 a = y at *
    generalize famN a = f at *
    go_enter Tryd.func50, Tryd.ntmps50
    go_wp2_with fail
    refine (PF.out _).mono ?_
    rintro e w' ⟨rfl, rfl⟩
    go_wp2
    go_ret
    exact ⟨bool_eq HK.out.symm, rfl⟩
  by_cases h3 : ae = 3
  · subst h3
    have HK := Lib.hid (show adrB 3 a = link a from rfl)
    have PF := Lib.hid (fun V => link_any a V)
    generalize link a = z at *
    generalize adrB 3 a = y at *
    go_enter Tryd.func50, Tryd.ntmps50
    go_wp2_with fail
    refine (PF.out _).mono ?_
    rintro e w' ⟨rfl, rfl⟩
    go_wp2
    go_ret
    exact ⟨bool_eq HK.out.symm, rfl⟩
  have HK := Lib.hid (show adrB ae a = false by unfold adrB; rw [if_neg h0, if_neg h1, if_neg h2, if_neg h3])
  have e0 : (ae == 0) = false := by simpa using h0
  have e1 : (ae == 1) = false := by simpa using h1
  have e2 : (ae == 2) = false := by simpa using h2
  have e3 : (ae == 3) = false := by simpa using h3
  go_enter Tryd.func50, Tryd.ntmps50
  go_wp2
  go_ret
  exact ⟨bool_eq HK.out.symm, rfl⟩
set_option maxHeartbeats 1600000 in
theorem in_any (ae : Int) (a : ByteArray) (p : Int) (w : World) (ha : a.size ≤ maxLen) (ht : Tab w) : Calls Tryd.prog 35 #[.int .i64 ae, .string a, .int .i64 p] w fun e w' => e = .returned (.bool (inB ae a p)) ∧ Below w.heap.size w w' := by
  have P1 := Lib.hid (fun V => address_any ae a V)
  have P2 := Lib.hid (length_any ae p w ht)
  have P3 := Lib.hid (fun V => Pre.right_any a p V ha)
  have HK := Lib.hid (show inB ae a p = (adrB ae a && (lenB ae p && (decide (ae = 0) || rightZ a p))) from rfl)
  clear ht ha
  generalize inB ae a p = y at *
  generalize adrB ae a = x1 at *
  generalize lenB ae p = x2 at *
  generalize rightZ a p = x3 at *
  cases x1
  · go_enter Tryd.func35, Tryd.ntmps35
    go_wp2_with fail
    refine (P1.out _).mono ?_
    rintro r w' ⟨rfl, rfl⟩
    go_wp2
    go_ret
    exact ⟨bool_eq HK.out.symm, Below.refl _ _⟩
  cases x2
  · go_enter Tryd.func35, Tryd.ntmps35
    go_wp2_with fail
    refine (P1.out _).mono ?_
    rintro r w' ⟨rfl, rfl⟩
    go_wp2_with fail
    refine (P2.out).mono ?_
    rintro r w' ⟨rfl, rfl⟩
    go_wp2
    go_ret
    exact ⟨bool_eq HK.out.symm, Below.refl _ _⟩
  by_cases h0 : ae = 0
  · subst h0
    go_enter Tryd.func35, Tryd.ntmps35
    go_wp2_with fail
    refine (P1.out _).mono ?_
    rintro r w' ⟨rfl, rfl⟩
    go_wp2_with fail
    refine (P2.out).mono ?_
    rintro r w' ⟨rfl, rfl⟩
    go_wp2
    go_ret
    exact ⟨bool_eq HK.out.symm, Below.refl _ _⟩
  have e0 : (ae == 0) = false := by simpa using h0
  rw [decide_eq_false h0] at HK
  clear h0
  go_enter Tryd.func35, Tryd.ntmps35
  go_wp2_with fail
  refine (P1.out _).mono ?_
  rintro r w' ⟨rfl, rfl⟩
  go_wp2_with fail
  refine (P2.out).mono ?_
  rintro r w' ⟨rfl, rfl⟩
  go_wp2_with fail
  refine (P3.out _).mono ?_
  rintro r w' ⟨rfl, hb⟩
  go_wp2
  go_ret
  exact ⟨bool_eq HK.out.symm, hb⟩
theorem count_any (ae p : Int) (w : World) (h : lenB ae p = true) : Calls Tryd.prog 82 #[.int .i64 ae, .int .i64 p] w fun e w' => e = .returned (.int .i64 (countN ae p : Nat)) ∧ w = w' := by
  have hr := len_range h
  have hc := count_le h
  have P1 := Lib.hid (fun V => Pre.least_any p V (by omega))
  by_cases h3 : ae = 3
  · subst h3
    have HK0 : ((countN 3 p : Nat) : Int) = (leastN p : Int) - 8 := by have : baseN 3 = 8 := rfl; omega
    have hw : wrap64 ((leastN p : Int) - 8) = (leastN p : Int) - 8 := IntWalk.wrap64_in _ ⟨by omega, by have := hc.1; have : baseN 3 = 8 := rfl; omega⟩
    have HK := Lib.hid (hw.trans HK0.symm)
    clear hw HK0
    generalize countN 3 p = c at *
    generalize leastN p = n at *
    clear hr hc h
    go_enter Tryd.func82, Tryd.ntmps82
    go_wp2_with fail
    refine (P1.out _).mono ?_
    rintro r w' ⟨rfl, rfl⟩
    go_wp2
    go_ret
    exact ⟨int_eq HK.out, rfl⟩
  have HK := Lib.hid (show ((countN ae p : Nat) : Int) = (leastN p : Int) from by
    have : baseN ae = 0 := by unfold baseN; rw [if_neg h3]
    omega)
  have e3 : (ae == 3) = false := by simpa using h3
  generalize countN ae p = c at *
  generalize leastN p = n at *
  clear hr hc h
  go_enter Tryd.func82, Tryd.ntmps82
  go_wp2_with fail
  refine (P1.out _).mono ?_
  rintro r w' ⟨rfl, rfl⟩
  go_wp2
  go_ret
  exact ⟨int_eq HK.out.symm, rfl⟩
theorem adr_size {ae : Int} {a : ByteArray} {p : Int} (h : inB ae a p = true) : a.size ≤ 16 := by
  rcases (in_cases h).2 with ⟨_, h0⟩ | ⟨⟨_, h0⟩ | ⟨_, h0⟩ | ⟨_, h0⟩, _⟩
  · omega
  · omega
  · omega
  · have := link_size h0; omega
theorem cutL_len {ae : Int} {a : ByteArray} {p : Int} (h : inB ae a p = true) : (cutL a.data.toList p).length = leastN p := by
  have h1 := cut_size h
  have h2 := (count_le (in_cases h).1).2
  unfold cutP at h1
  rw [mk_size, List.length_drop] at h1
  rcases (in_cases h).2 with ⟨rfl, h0⟩ | ⟨hc, h8, _⟩
  · have : baseN 0 = 0 := rfl
    omega
  · unfold cutL
    have := (len_range (in_cases h).1).2.2.1
    rw [List.length_take, keepL_length, size_list, Nat.min_eq_left (by unfold leastN; omega)]
set_option maxHeartbeats 1600000 in
theorem cut_any (ae : Int) (a : ByteArray) (p : Int) (w : World) (h : inB ae a p = true) : Calls Tryd.prog 67 #[.int .i64 ae, .string a, .int .i64 p] w fun e w' => e = .returned (.string (cutP ae a p)) ∧ Below w.heap.size w w' := by
  have hl := (in_cases h).1
  have hr := len_range hl
  have hc := count_le hl
  have hz := cutL_len h
  have ha := adr_size h
  have P1 := Lib.hid (fun V => Pre.cut_any a p V (by omega) (by omega))
  have P2 := Lib.hid (fun V => count_any ae p V hl)
  have hs : (ByteArray.mk (cutL a.data.toList p).toArray).size = leastN p := by rw [mk_size, hz]
  have HK := Lib.hid (show (ByteArray.mk (cutL a.data.toList p).toArray).extract (baseN ae) (leastN p) = cutP ae a p from text_eq (by
    rw [Nu.ext_list]
    show ((cutL a.data.toList p).drop (baseN ae)).take (leastN p - baseN ae) = (cutL a.data.toList p).drop (baseN ae)
    exact List.take_of_length_le (by rw [List.length_drop, hz]; exact Nat.le_refl _)))
  generalize ByteArray.mk (cutL a.data.toList p).toArray = x at *
  generalize cutP ae a p = y at *
  have hsl : ∀ wx, Sem.run Tryd.prog (Instr.slice 9 (Value.string x) (some (Value.int IntKind.i64 ((x.size : Int) - (countN ae p : Int)))) none none) wx = .ok (.string y) wx := fun wx => by
    have := F2.sl_l x ((x.size : Int) - (countN ae p : Int)) (baseN ae) (leastN p) (by omega) (by omega) hs wx
    rw [HK.out] at this
    exact this
  have hln : leastN p ≤ 16 := by unfold leastN; omega
  have hw : wrap64 ((x.size : Int) - (countN ae p : Int)) = (x.size : Int) - (countN ae p : Int) := IntWalk.wrap64_in _ ⟨by omega, by omega⟩
  clear hln
  generalize countN ae p = c at *
  clear hl hr hc hz ha hs h HK
  go_enter Tryd.func67, Tryd.ntmps67
  go_wp2_with fail
  refine (P1.out _).mono ?_
  rintro r w' ⟨rfl, hb⟩
  go_wp2_with fail
  refine (P2.out _).mono ?_
  rintro r w' ⟨rfl, rfl⟩
  go_wp2
  go_ret
  exact ⟨rfl, hb⟩
theorem seq_is (m : M) : seqB m = (!decide (m.ae = 0) && (fitsB m.seq 2 && (decide (m.id.size = 8) && (decide (1 ≤ m.hops) && fitsB m.hops 1)))) := rfl
set_option maxHeartbeats 3200000 in
theorem kind_any (m : M) (w : World) : Calls Tryd.prog 38 #[.agg m.cells] w fun e w' => e = .returned (.bool (kindB m)) ∧ Below w.heap.size w w' := by
  have HB := Lib.hid (balloc (Below.refl _ w) (.cells m.cells 34))
  have b0 := Bx.new w m
  by_cases h12 : m.kind = 12
  · have HK := Lib.hid (show kindB m = true by unfold kindB; rw [if_pos h12])
    go_enter Tryd.func38, Tryd.ntmps38
    go_upto_region 1 with fail
    generalize w.alloc (.cells m.cells 34) = V at *
    have c0 := b0.cs.c0
    have c5 := b0.cs.c5
    have c11 := b0.cs.c11
    have c12 := b0.cs.c12
    have c16 := b0.cs.c16
    clear b0
    rw [h12] at c0
    go_wp2
    go_ret
    exact ⟨bool_eq HK.out.symm, HB.out⟩
  by_cases h13 : m.kind = 13
  rotate_left
  · have HK := Lib.hid (show kindB m = false by unfold kindB; rw [if_neg h12, if_neg h13])
    have e12 : (m.kind == 12) = false := by simpa using h12
    have e13 : (m.kind == 13) = false := by simpa using h13
    go_enter Tryd.func38, Tryd.ntmps38
    go_upto_region 1 with fail
    generalize w.alloc (.cells m.cells 34) = V at *
    have c0 := b0.cs.c0
    have c5 := b0.cs.c5
    have c11 := b0.cs.c11
    have c12 := b0.cs.c12
    have c16 := b0.cs.c16
    clear b0
    go_wp2
    go_ret
    exact ⟨bool_eq HK.out.symm, HB.out⟩
  have HK := Lib.hid (show kindB m = (!decide (m.ae = 0) && (fitsB m.seq 2 && (decide (m.id.size = 8) && (decide (1 ≤ m.hops) && fitsB m.hops 1)))) by unfold kindB; rw [if_neg h12, if_pos h13, seq_is])
  have P1 := Lib.hid (fun V => Oct.fits_any m.seq 2 V)
  have P2 := Lib.hid (fun V => Oct.fits_any m.hops 1 V)
  generalize kindB m = y at *
  generalize fitsB m.seq 2 = x1 at *
  generalize fitsB m.hops 1 = x2 at *
  by_cases h0 : m.ae = 0
  · rw [decide_eq_true h0] at HK
    go_enter Tryd.func38, Tryd.ntmps38
    go_upto_region 1 with fail
    generalize w.alloc (.cells m.cells 34) = V at *
    have c0 := b0.cs.c0
    have c5 := b0.cs.c5
    have c11 := b0.cs.c11
    have c12 := b0.cs.c12
    have c16 := b0.cs.c16
    clear b0
    rw [h13] at c0
    rw [h0] at c5
    clear h0 h12 h13
    go_wp2
    go_ret
    exact ⟨bool_eq HK.out.symm, HB.out⟩
  have e0 : (m.ae == 0) = false := by simpa using h0
  have e1 : (m.ae != 0) = true := by rw [bne, e0]; rfl
  rw [decide_eq_false h0] at HK
  cases x1
  · go_enter Tryd.func38, Tryd.ntmps38
    go_upto_region 1 with fail
    generalize w.alloc (.cells m.cells 34) = V at *
    have c0 := b0.cs.c0
    have c5 := b0.cs.c5
    have c11 := b0.cs.c11
    have c12 := b0.cs.c12
    have c16 := b0.cs.c16
    clear b0
    rw [h13] at c0
    clear h0 h12 h13
    go_wp2_with fail
    refine (P1.out _).mono ?_
    rintro r w' ⟨rfl, rfl⟩
    go_wp2
    go_ret
    exact ⟨bool_eq HK.out.symm, HB.out⟩
  have e2 : ((m.id.size : Int) == 8) = decide (m.id.size = 8) := size_eq m.id 8
  by_cases h8 : m.id.size = 8
  rotate_left
  · rw [decide_eq_false h8] at HK e2
    clear h8
    go_enter Tryd.func38, Tryd.ntmps38
    go_upto_region 1 with fail
    generalize w.alloc (.cells m.cells 34) = V at *
    have c0 := b0.cs.c0
    have c5 := b0.cs.c5
    have c11 := b0.cs.c11
    have c12 := b0.cs.c12
    have c16 := b0.cs.c16
    clear b0
    rw [h13] at c0
    clear h0 h12 h13
    go_wp2_with fail
    refine (P1.out _).mono ?_
    rintro r w' ⟨rfl, rfl⟩
    go_wp2
    go_ret
    exact ⟨bool_eq HK.out.symm, HB.out⟩
  rw [decide_eq_true h8] at HK e2
  clear h8
  by_cases h1 : 1 ≤ m.hops
  rotate_left
  · rw [decide_eq_false h1] at HK
    go_enter Tryd.func38, Tryd.ntmps38
    go_upto_region 1 with fail
    generalize w.alloc (.cells m.cells 34) = V at *
    have c0 := b0.cs.c0
    have c5 := b0.cs.c5
    have c11 := b0.cs.c11
    have c12 := b0.cs.c12
    have c16 := b0.cs.c16
    clear b0
    rw [h13] at c0
    clear h0 h12 h13
    go_wp2_with fail
    refine (P1.out _).mono ?_
    rintro r w' ⟨rfl, rfl⟩
    go_wp2
    go_ret
    exact ⟨bool_eq HK.out.symm, HB.out⟩
  rw [decide_eq_true h1] at HK
  go_enter Tryd.func38, Tryd.ntmps38
  go_upto_region 1 with fail
  generalize w.alloc (.cells m.cells 34) = V at *
  have c0 := b0.cs.c0
  have c5 := b0.cs.c5
  have c11 := b0.cs.c11
  have c12 := b0.cs.c12
  have c16 := b0.cs.c16
  clear b0
  rw [h13] at c0
  clear h0 h12 h13
  go_wp2_with fail
  refine (P1.out _).mono ?_
  rintro r w' ⟨rfl, rfl⟩
  go_wp2_with fail
  refine (P2.out _).mono ?_
  rintro r w' ⟨rfl, rfl⟩
  go_wp2
  go_ret
  exact ⟨bool_eq HK.out.symm, HB.out⟩
end Go.Proofs.YtjhfpobjbijcpaaDoor.J2
namespace Go.Proofs
open Go.Shelf
def Tryd.lays169_ren : Go.Shelf.Ren := ⟨fun | 169 => 17 | n => n, fun | 70 => 49 | 9 => 9 | 0 => 0 | 72 => 52 | 37 => 50 | 127 => 66 | 3 => 3 | 5 => 5 | n => n, fun | n => n⟩
theorem Tryd.lays169 : Go.Proofs.Lays.n169 Tryd.prog Tryd.lays169_ren := {
  mixed := by kernel_rfl
  f169 := Tryd.func17.trans (congrArg some (by kernel_rfl))
  t0 := Tryd.underlying0
  a0 := Tryd.isAgg0
  z0 := Tryd.sizeOf0
  v0 := Tryd.zeroValue0
  t3 := Tryd.underlying3
  a3 := Tryd.isAgg3
  z3 := Tryd.sizeOf3
  v3 := Tryd.zeroValue3
  t9 := Tryd.underlying9
  a9 := Tryd.isAgg9
  z9 := Tryd.sizeOf9
  v9 := Tryd.zeroValue9
  t37 := Tryd.underlying50
  a37 := Tryd.isAgg50
  z37 := Tryd.sizeOf50
  v37 := Tryd.zeroValue50
  t70 := Tryd.underlying49
  a70 := Tryd.isAgg49
  z70 := Tryd.sizeOf49
  v70 := Tryd.zeroValue49
  t72 := Tryd.underlying52
  a72 := Tryd.isAgg52
  z72 := Tryd.sizeOf52
  v72 := Tryd.zeroValue52
  t127 := Tryd.underlying66
  a127 := Tryd.isAgg66
  z127 := Tryd.sizeOf66
  v127 := Tryd.zeroValue66 }
theorem Tryd.Builder_Extra_169 : Builder.Extra Tryd.prog Tryd.lays169_ren := {
  sizeBuilder := by kernel_rfl
  liesBuilder := by kernel_rfl
  t5 := Tryd.underlying5
  a5 := Tryd.isAgg5
  z5 := Tryd.sizeOf5
  v5 := Tryd.zeroValue5
  infoByte := by kernel_rfl
  cellsByte := by kernel_rfl
  sizeByte := by kernel_rfl
  neB5 := by decide }
open Go.RowKit in
theorem Tryd.Builder_String_any (B b : Nat) (l : List UInt8) (w : World) (h : Lib.IsBuilder 52 5 B b (Lib.byteCells l) w) (hBw : B ≤ w.heap.size) :
    Calls Tryd.prog 17 #[.pointer (some ⟨b, 0, none⟩)] w fun e w' => e = .returned (.string ⟨l.toArray⟩) ∧ Below B w w' := Any.Builder_String_any Tryd.lays169 Tryd.Builder_Extra_169 B b l w h hBw
def Tryd.lays165_ren : Go.Shelf.Ren := ⟨fun | 165 => 30 | 240 => 22 | 241 => 46 | 276 => 31 | 277 => 69 | n => n, fun | 70 => 49 | 3 => 3 | 0 => 0 | 4 => 4 | 9 => 9 | 20 => 20 | 72 => 52 | 37 => 50 | 164 => 71 | 5 => 5 | n => n, fun | n => n⟩
theorem Tryd.lays165 : Go.Proofs.Lays.n165 Tryd.prog Tryd.lays165_ren := {
  mixed := by kernel_rfl
  f165 := Tryd.func30.trans (congrArg some (by kernel_rfl))
  f240 := Tryd.func22.trans (congrArg some (by kernel_rfl))
  f241 := Tryd.func46.trans (congrArg some (by kernel_rfl))
  f276 := Tryd.func31.trans (congrArg some (by kernel_rfl))
  f277 := Tryd.func69.trans (congrArg some (by kernel_rfl))
  t0 := Tryd.underlying0
  a0 := Tryd.isAgg0
  z0 := Tryd.sizeOf0
  v0 := Tryd.zeroValue0
  t3 := Tryd.underlying3
  a3 := Tryd.isAgg3
  z3 := Tryd.sizeOf3
  v3 := Tryd.zeroValue3
  t4 := Tryd.underlying4
  a4 := Tryd.isAgg4
  z4 := Tryd.sizeOf4
  v4 := Tryd.zeroValue4
  t9 := Tryd.underlying9
  a9 := Tryd.isAgg9
  z9 := Tryd.sizeOf9
  v9 := Tryd.zeroValue9
  t20 := Tryd.underlying20
  a20 := Tryd.isAgg20
  z20 := Tryd.sizeOf20
  v20 := Tryd.zeroValue20
  t37 := Tryd.underlying50
  a37 := Tryd.isAgg50
  z37 := Tryd.sizeOf50
  v37 := Tryd.zeroValue50
  t70 := Tryd.underlying49
  a70 := Tryd.isAgg49
  z70 := Tryd.sizeOf49
  v70 := Tryd.zeroValue49
  t72 := Tryd.underlying52
  a72 := Tryd.isAgg52
  z72 := Tryd.sizeOf52
  v72 := Tryd.zeroValue52
  t164 := Tryd.underlying71
  a164 := Tryd.isAgg71
  z164 := Tryd.sizeOf71
  v164 := Tryd.zeroValue71 }
theorem Tryd.Builder_Extra_165 : Builder.Extra Tryd.prog Tryd.lays165_ren := {
  sizeBuilder := by kernel_rfl
  liesBuilder := by kernel_rfl
  t5 := Tryd.underlying5
  a5 := Tryd.isAgg5
  z5 := Tryd.sizeOf5
  v5 := Tryd.zeroValue5
  infoByte := by kernel_rfl
  cellsByte := by kernel_rfl
  sizeByte := by kernel_rfl
  neB5 := by decide }
open Go.RowKit in
theorem Tryd.Builder_Grow_fresh (B b n : Nat) (w : World) (hB : B ≤ b) (hbk : w.heap[b]? = some (.cells #[.pointer none, .slice none 0 0] 52 (0, 0))) (hBw : B ≤ w.heap.size) (hn : n ≤ 281474976710656) :
    Calls Tryd.prog 30 #[.pointer (some ⟨b, 0, none⟩), .int .i64 n] w fun e w' => e = .returned (.tuple #[]) ∧ (Lib.BuilderAt 52 5 B b (.pointer (some ⟨b, 0, none⟩)) [] w' ∧ Below B w w') := Any.Builder_Grow_fresh Tryd.lays165 Tryd.Builder_Extra_165 B b n w hB hbk hBw hn

end Go.Proofs
