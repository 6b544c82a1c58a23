/-
  A mask's length: the call, and the document's own; the example holds.
-/
import Derived.Test.YtfaobpmbiocafaaMask
namespace Go.Proofs.Ytfaobpmbiocafaa.Mask
open Go.ChangeShapes Go.WideShapes Go.ChangeAt Go.RowKit
open Go.Proofs.Ytfaobpmbiocafaa.Bits
set_option linter.unusedVariables false
set_option maxRecDepth 100000

theorem bytes_false {a b : ByteArray} (h : ¬ a = b) : (a.toList == b.toList) = false := by
  rw [ByteArray.toList_eq, ByteArray.toList_eq]
  simp
  intro e
  exact h (by cases a; cases b; simp_all)

theorem bytes_true (a : ByteArray) : (a.toList == a.toList) = true := by simp

def lenOf (s : ByteArray) : Nat := alikeN s.data.toList ffs

def isMask (s : ByteArray) : Bool := decide (maskB (lenOf s) = s)

def plenN (s : ByteArray) : Nat := if isMask s = true then lenOf s else 0

theorem lenOf_le (s : ByteArray) : lenOf s ≤ 32 := by
  have h := alike_le s.data.toList ffs
  have h4 : ffs.length = 4 := rfl
  rw [h4] at h
  unfold lenOf
  omega

theorem mask_list (n : Nat) : (maskB n).data.toList = keepL ffs n := rfl

theorem lenOf_mask (n : Nat) (h : n ≤ 32) : lenOf (maskB n) = n := alike_ones n h

theorem isMask_mask (n : Nat) (h : n ≤ 32) : isMask (maskB n) = true := by
  unfold isMask
  rw [lenOf_mask n h]
  simp

theorem isMask_iff (s : ByteArray) : isMask s = true ↔ ∃ n, n ≤ 32 ∧ maskB n = s := by
  constructor
  · intro h
    unfold isMask at h
    exact ⟨lenOf s, lenOf_le s, of_decide_eq_true h⟩
  · rintro ⟨n, h, rfl⟩
    exact isMask_mask n h

theorem plen_mask (n : Nat) (h : n ≤ 32) : plenN (maskB n) = n := by
  unfold plenN
  rw [isMask_mask n h, if_pos rfl, lenOf_mask n h]

theorem plenN_le (s : ByteArray) : plenN s ≤ 32 := by
  have := lenOf_le s
  unfold plenN
  split <;> omega

theorem ofB_in (n : Nat) (h : n ≤ 32) : ofB (n : Int) = maskB n ∧ isLen (n : Int) = true := by
  have hl : isLen (n : Int) = true := by unfold isLen; simp; omega
  exact ⟨by unfold ofB; rw [if_pos hl, Int.toNat_natCast], hl⟩

theorem of_in (n : Nat) (h : n ≤ 32) (w : World) :
    Calls Try.prog 98 #[.int .i64 (n : Int)] w fun e w' => e = .returned (.tuple #[.string (maskB n), .bool true]) ∧ Below w.heap.size w w' := by
  have := of_any (n : Int) w
  rw [(ofB_in n h).1, (ofB_in n h).2] at this
  exact this

theorem rof_in (n : Nat) (h : n ≤ 32) (w : World) :
    Calls Try.prog 66 #[.int .i64 (n : Int)] w fun e w' => e = .returned (.tuple #[.string (maskB n), .bool true]) ∧ Below w.heap.size w w' := by
  have := rof_any (n : Int) w
  rw [(ofB_in n h).1, (ofB_in n h).2] at this
  exact this

set_option maxHeartbeats 800000 in
theorem plen_any (s : ByteArray) (w : World) (hs : s.size ≤ 1048576) :
    Calls Try.prog 93 #[.string s] w fun e w' => e = .returned (.tuple #[.int .i64 (plenN s : Nat), .bool (isMask s)]) ∧ Below w.heap.size w w' := by
  have P1 := Lib.hid (fun w => text_any 4294967295 w (by decide))
  rw [four_all] at P1
  have P2 := Lib.hid (fun w => alike_any s ⟨ffs.toArray⟩ w hs (by decide))
  have e : alikeN s.data.toList (ByteArray.mk ffs.toArray).data.toList = lenOf s := rfl
  rw [e] at P2
  have hle := lenOf_le s
  have P3 := Lib.hid (fun w => of_in (lenOf s) hle w)
  clear e
  by_cases hm : maskB (lenOf s) = s
  · have h1 : isMask s = true := by unfold isMask; simp [hm]
    have h2 : plenN s = lenOf s := by unfold plenN; rw [if_pos h1]
    rw [h1, h2]
    rw [hm] at P3
    clear h1 h2 hm
    generalize lenOf s = k at *
    go_enter Try.func93, Try.ntmps93
    go_wp2_with fail
    refine (P1.out _).mono ?_
    rintro e w1 ⟨rfl, hb1⟩
    go_wp2_with fail
    refine (P2.out _).mono ?_
    rintro e w2 ⟨rfl, hb2⟩
    replace hb2 := bcall hb1 hb2
    clear hb1
    go_wp2_with fail
    refine (P3.out _).mono ?_
    rintro e w3 ⟨rfl, hb3⟩
    replace hb3 := bcall hb2 hb3
    clear hb2
    go_wp2
    go_ret2
    exact ⟨rfl, hb3⟩
  · have h1 : isMask s = false := by unfold isMask; simp [hm]
    have h2 : plenN s = 0 := by unfold plenN; rw [h1]; rfl
    rw [h1, h2]
    clear h1 h2
    generalize maskB (lenOf s) = x at *
    generalize lenOf s = k at *
    have hx := bytes_false hm
    go_enter Try.func93, Try.ntmps93
    go_wp2_with fail
    refine (P1.out _).mono ?_
    rintro e w1 ⟨rfl, hb1⟩
    go_wp2_with fail
    refine (P2.out _).mono ?_
    rintro e w2 ⟨rfl, hb2⟩
    replace hb2 := bcall hb1 hb2
    clear hb1
    go_wp2_with fail
    refine (P3.out _).mono ?_
    rintro e w3 ⟨rfl, hb3⟩
    replace hb3 := bcall hb2 hb3
    clear hb2
    go_wp2
    go_ret2
    exact ⟨rfl, hb3⟩

set_option maxHeartbeats 800000 in
theorem rplen_any (s : ByteArray) (w : World) :
    Calls Try.prog 48 #[.string s] w fun e w' => e = .returned (.tuple #[.int .i64 (plenN s : Nat), .bool (isMask s)]) ∧ Below w.heap.size w w' := by
  go_enter Try.func48, Try.ntmps48
  go_wp2
  go_loopw [4] (fun v wr => ∃ j : Nat, j ≤ 33 ∧ v = .int .i64 j ∧ Hid (∀ i, i < j → maskB i ≠ s) ∧ Hid (Below w.heap.size w wr)) (fun v _ => 33 - (intOf v).toNat)
  case atStart => exact ⟨0, by omega, rfl, Lib.hid (fun i h => by omega), Lib.hid (Below.refl _ _)⟩
  case round =>
    obtain ⟨j, hj, rfl, HN, HB⟩ := hrel
    by_cases hlt : j ≤ 32
    · have P := Lib.hid (fun w => rof_in j hlt w)
      by_cases hm : maskB j = s
      · have h1 : isMask s = true := (isMask_iff s).2 ⟨j, hlt, hm⟩
        have h2 : plenN s = j := by rw [← hm]; exact plen_mask j hlt
        have HE := Lib.hid (And.intro h1 h2)
        rw [hm] at P
        clear h1 h2 hm
        have hx := bytes_true s
        go_wp2_with fail
        refine (P.out _).mono ?_
        rintro e w1 ⟨rfl, hb1⟩
        go_wp2
        go_ret2
        exact ⟨by rw [HE.out.1, HE.out.2]; rfl, bcall HB.out hb1⟩
      · have HM := Lib.hid hm
        have hx := bytes_false hm
        clear hm
        go_wp2_with fail
        refine (P.out _).mono ?_
        rintro e w1 ⟨rfl, hb1⟩
        go_wp2
        go_roundw
        case rel => exact ⟨j + 1, by omega, by go_num, Lib.hid (fun i hi => by
          by_cases e : i = j
          · rw [e]; exact HM.out
          · exact HN.out i (by omega)), Lib.hid (bcall HB.out hb1)⟩
        case measure => simp [intOf]; omega
    · obtain rfl : j = 33 := by omega
      have h1 : isMask s = false := by
        cases h : isMask s with
        | false => rfl
        | true =>
          obtain ⟨n, hn, he⟩ := (isMask_iff s).1 h
          exact absurd he (HN.out n (by omega))
      have h2 : plenN s = 0 := by unfold plenN; rw [h1]; rfl
      have HE := Lib.hid (And.intro h1 h2)
      clear h1 h2
      go_wp2
      go_ret2
      exact ⟨by rw [HE.out.1, HE.out.2]; rfl, HB.out⟩

theorem ex_23 : maskB 23 = ⟨#[255, 255, 254, 0]⟩ := by decide
theorem ex_len : plenN ⟨#[255, 255, 254, 0]⟩ = 23 ∧ isMask ⟨#[255, 255, 254, 0]⟩ = true := by decide
theorem ex_no : isMask ⟨#[255, 0, 255, 0]⟩ = false := by decide

end Go.Proofs.Ytfaobpmbiocafaa.Mask
