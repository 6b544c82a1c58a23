/-
  Masks of IPv4: the calls of layer 5, and the document's own.
-/
import Derived.Test.YtfaobpmbiocafaaAwake
import Derived.OwnWalk
namespace Go.Proofs.Ytfaobpmbiocafaa.Mask
open Go.ChangeShapes Go.WideShapes Go.ChangeAt Go.RowKit
open Go.Proofs.Ytfaobpmbiocafaa.Bits
set_option linter.unusedVariables false
set_option maxRecDepth 100000

def ffs : List UInt8 := [255, 255, 255, 255]

/-- the first n bits, of 32, as a number -/
def onesN (n : Nat) : Nat := 4294967295 * 2 ^ (32 - n) % 4294967296

def fourL (m : Nat) : List UInt8 := [UInt8.ofNat (m / 2 ^ 24), UInt8.ofNat (m / 2 ^ 16), UInt8.ofNat (m / 2 ^ 8), UInt8.ofNat m]

theorem four_ones : ∀ n, n ≤ 32 → fourL (onesN n) = keepL ffs n := by decide +kernel

theorem four_all : fourL 4294967295 = ffs := by decide

theorem alike_ones : ∀ n, n ≤ 32 → alikeN (keepL ffs n) ffs = n := by decide +kernel

theorem ones_lt (n : Nat) : onesN n < 4294967296 := Nat.mod_lt _ (by decide)

theorem ofNat_cell (q : Nat) : Value.int .u8 ((q : Int) % 256) = Value.int .u8 ((UInt8.ofNat q).toNat : Int) := by
  congr 1

set_option maxHeartbeats 400000 in
theorem ones_in (n : Nat) (w : World) (h : n ≤ 32) :
    Calls Try.prog 107 #[.int .i64 n] w fun e w' => e = .returned (.int .u32 (onesN n : Nat)) ∧ w = w' := by
  go_enter Try.func107, Try.ntmps107
  go_wp2
  go_ret
  exact ⟨int_eq (by unfold onesN; simp), rfl⟩

theorem conv_four (w : World) (m : Nat) (h : m < 4294967296) :
    (convert 76 9 (.slice (some ⟨w.heap.size, 0, none⟩) 4 4)).run Try.prog (w.alloc (.cells #[.int .u8 ((m : Int) / 16777216), .int .u8 ((m : Int) / 65536 % 256), .int .u8 ((m : Int) / 256 % 256), .int .u8 ((m : Int) % 256)] 5)) = .ok (.string ⟨(fourL m).toArray⟩) (w.alloc (.cells #[.int .u8 ((m : Int) / 16777216), .int .u8 ((m : Int) / 65536 % 256), .int .u8 ((m : Int) / 256 % 256), .int .u8 ((m : Int) % 256)] 5)) := by
  have h := World.ownsRow_lit (base := w.heap.size) (e := 5) (size := 1) w #[.int .u8 ((m : Int) / 16777216), .int .u8 ((m : Int) / 65536 % 256), .int .u8 ((m : Int) / 256 % 256), .int .u8 ((m : Int) % 256)] 4 (Nat.le_refl _) (by unfold maxLen; omega) rfl
  have e1 : (m : Int) / 16777216 = ((m / 2 ^ 24 : Nat) : Int) % 256 := by omega
  have e2 : (m : Int) / 65536 = ((m / 2 ^ 16 : Nat) : Int) := by omega
  have e3 : (m : Int) / 256 = ((m / 2 ^ 8 : Nat) : Int) := by omega
  rw [e1, e2, e3, ofNat_cell, ofNat_cell, ofNat_cell, ofNat_cell] at h ⊢
  exact conv_row _ _ 4 _ (fourL m) 4 rfl h

set_option maxHeartbeats 400000 in
theorem text_any (m : Nat) (w : World) (h : m < 4294967296) :
    Calls Try.prog 105 #[.int .u32 m] w fun e w' => e = .returned (.string ⟨(fourL m).toArray⟩) ∧ Below w.heap.size w w' := by
  have hc := conv_four w m h
  go_enter Try.func105, Try.ntmps105
  go_wp2
  go_ret
  exact ⟨rfl, (Below.refl _ _).alloc (Nat.le_refl _) _⟩

theorem tup_eq {a b : ByteArray} {p q : Bool} (h : a = b) (h' : p = q) : Ending.returned (.tuple #[.string a, .bool p]) = .returned (.tuple #[.string b, .bool q]) := by rw [h, h']

/-- the mask of a length -/
def maskB (n : Nat) : ByteArray := ⟨(keepL ffs n).toArray⟩

def isLen (n : Int) : Bool := decide (0 ≤ n) && decide (n ≤ 32)

/-- what Of answers -/
def ofB (n : Int) : ByteArray := if isLen n = true then maskB n.toNat else ⟨#[]⟩

set_option maxHeartbeats 400000 in
theorem of_any (n : Int) (w : World) :
    Calls Try.prog 98 #[.int .i64 n] w fun e w' => e = .returned (.tuple #[.string (ofB n), .bool (isLen n)]) ∧ Below w.heap.size w w' := by
  by_cases h : 0 ≤ n ∧ n ≤ 32
  · have hl : isLen n = true := by unfold isLen; simp; omega
    have hb : ofB n = maskB n.toNat := by unfold ofB; rw [if_pos hl]
    rw [hl, hb]
    clear hl hb
    obtain ⟨n, rfl⟩ := Int.eq_ofNat_of_zero_le h.1
    have h32 : n ≤ 32 := by omega
    have P1 := Lib.hid (fun w => ones_in n w h32)
    have P2 := Lib.hid (fun w => text_any (onesN n) w (ones_lt n))
    rw [four_ones n h32] at P2
    have e : (ByteArray.mk (keepL ffs n).toArray) = maskB (n : Int).toNat := rfl
    rw [e] at P2
    generalize maskB (n : Int).toNat = x at *
    generalize onesN n = k at *
    clear e h
    go_enter Try.func98, Try.ntmps98
    go_wp2_with fail
    refine (P1.out _).mono ?_
    rintro e w1 ⟨rfl, rfl⟩
    go_wp2_with fail
    refine (P2.out _).mono ?_
    rintro e w1 ⟨rfl, hb1⟩
    go_wp2
    go_ret2
    exact ⟨rfl, hb1⟩
  · have hl : isLen n = false := by unfold isLen; simp; omega
    have hb : ofB n = ⟨#[]⟩ := by unfold ofB; rw [hl]; rfl
    rw [hl, hb]
    clear hl hb
    go_enter Try.func98, Try.ntmps98
    by_cases h0 : n < 0
    · go_wp2
      go_ret2
      exact ⟨rfl, Below.refl _ _⟩
    · have h32 : 32 < n := by omega
      go_wp2
      go_ret2
      exact ⟨rfl, Below.refl _ _⟩

set_option maxHeartbeats 400000 in
theorem rof_any (n : Int) (w : World) :
    Calls Try.prog 66 #[.int .i64 n] w fun e w' => e = .returned (.tuple #[.string (ofB n), .bool (isLen n)]) ∧ Below w.heap.size w w' := by
  by_cases h : 0 ≤ n ∧ n ≤ 32
  · have hl : isLen n = true := by unfold isLen; simp; omega
    have hb : ofB n = maskB n.toNat := by unfold ofB; rw [if_pos hl]
    rw [hl, hb]
    clear hl hb
    have P2 := Lib.hid (fun w => rkeep_any ⟨#[255, 255, 255, 255]⟩ n w (by decide))
    have e : (ByteArray.mk (keepL (ByteArray.mk #[255, 255, 255, 255]).data.toList n.toNat).toArray) = maskB n.toNat := rfl
    rw [e] at P2
    generalize maskB n.toNat = x at *
    clear e
    obtain ⟨h0, h1⟩ := h
    go_enter Try.func66, Try.ntmps66
    go_wp2_with fail
    refine (P2.out _).mono ?_
    rintro e w1 ⟨rfl, hb1⟩
    go_wp2
    go_ret2
    exact ⟨rfl, hb1⟩
  · have hl : isLen n = false := by unfold isLen; simp; omega
    have hb : ofB n = ⟨#[]⟩ := by unfold ofB; rw [hl]; rfl
    rw [hl, hb]
    clear hl hb
    go_enter Try.func66, Try.ntmps66
    by_cases h0 : n < 0
    · go_wp2
      go_ret2
      exact ⟨rfl, Below.refl _ _⟩
    · have h32 : 32 < n := by omega
      go_wp2
      go_ret2
      exact ⟨rfl, Below.refl _ _⟩
end Go.Proofs.Ytfaobpmbiocafaa.Mask
