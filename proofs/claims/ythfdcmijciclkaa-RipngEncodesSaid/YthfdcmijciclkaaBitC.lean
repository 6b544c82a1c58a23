/-
  Contracts of the calls that only reckon: Bit, its bounds, a byte's mask and its noughts ahead, Alike; and the document's own.
-/
import Derived.Test.YthfdcmijciclkaaBits
import Derived.WalkKit
import Derived.ProofKit
import Derived.OpenShut
import Derived.ShutString
import Derived.Below
import Derived.Lib.Hide
import Derived.WalkLawsBesides
import Derived.Outline
import Derived.RegionTactic
import Derived.Deep.RegionWith
import Derived.StillTailTactics
import Derived.Deep.RegionHeld3
import Derived.Deep.QuietTactic
import Derived.BigQuiet
import Derived.IntWalk
import Derived.LoopTactic
import Derived.Laws.IdiomStrings
namespace Go.Proofs.Ythfdcmijciclkaa.Bits
open Go.ChangeShapes Go.WideShapes Go.ChangeAt Go.RowKit
set_option linter.unusedVariables false
set_option maxRecDepth 100000

theorem bool_eq {a b : Bool} (h : a = b) : Ending.returned (.bool a) = .returned (.bool b) := by rw [h]
theorem int_eq {k : IntKind} {a b : Int} (h : a = b) : Ending.returned (.int k a) = .returned (.int k b) := by rw [h]

/-- the i-th bit of a text, false if there is none -/
def bitZ (s : ByteArray) (i : Int) : Bool := decide (0 ≤ i) && bitL s.data.toList i.toNat

theorem len_list (s : ByteArray) : s.data.toList.length = s.size := by simp
theorem getD_byte (s : ByteArray) (k : Nat) (h : k < s.size) : s.data.toList.getD k 0 = s[k] := by
  rw [getD_in _ _ (by simpa using h)]; rfl

theorem bitZ_in (s : ByteArray) (i : Nat) (h : i < 8 * s.size) : bitZ s i = (s[i / 8].toNat / 2 ^ (7 - i % 8) % 2 == 1) := by
  unfold bitZ bitL
  rw [Int.toNat_natCast, getD_byte s (i / 8) (by omega), bitN_eq]
  simp
theorem bitZ_neg (s : ByteArray) (i : Int) (h : i < 0) : bitZ s i = false := by unfold bitZ; simp; omega
theorem bitZ_out (s : ByteArray) (i : Int) (h : 8 * (s.size : Int) ≤ i) : bitZ s i = false := by
  unfold bitZ; rw [bitL_out _ _ (by rw [len_list]; omega)]; simp

theorem and_one (b k : Nat) (hb : b < 256) : (bits BinOp.and IntKind.u8 ((b : Int) / 2 ^ k) 1 == 1) = (b / 2 ^ k % 2 == 1) := by
  have h1 : (b : Int) / 2 ^ k = ((b / 2 ^ k : Nat) : Int) := by simp
  have h2 : b / 2 ^ k ≤ b := Nat.div_le_self _ _
  rw [h1]
  generalize b / 2 ^ k = m at h2 ⊢
  rw [u8_and _ _ (by omega) (by omega) (by omega) (by omega)]
  rw [Int.toNat_natCast, show (1 : Int).toNat = 1 from rfl, Nat.and_one_is_mod]
  rw [Bool.eq_iff_iff]; simp; omega

theorem mod_two (b k : Nat) (hb : b < 256) : ((wrap64 (b : Int) / 2 ^ k).tmod 2 == 1) = (b / 2 ^ k % 2 == 1) := by
  rw [IntWalk.wrap64_in _ (by omega)]
  have h1 : (b : Int) / 2 ^ k = ((b / 2 ^ k : Nat) : Int) := by simp
  rw [h1]
  generalize b / 2 ^ k = m
  rw [Int.tmod_eq_emod_of_nonneg (by omega)]
  rw [Bool.eq_iff_iff]; simp; omega

set_option maxHeartbeats 400000 in
theorem count_any (s : ByteArray) (w : World) (hs : s.size ≤ 1048576) :
    Calls Try.prog 72 #[.string s] w fun e w' => e = .returned (.int .i64 (8 * (s.size : Nat) : Int)) ∧ w = w' := by
  go_enter Try.func72, Try.ntmps72
  go_wp2
  go_ret
  exact ⟨rfl, rfl⟩

set_option maxHeartbeats 400000 in
theorem rbit_any (s : ByteArray) (i : Int) (w : World) (hs : s.size ≤ 1048576) :
    Calls Try.prog 65 #[.string s, .int .i64 i] w fun e w' => e = .returned (.bool (bitZ s i)) ∧ w = w' := by
  by_cases h0 : i < 0
  · go_enter Try.func65, Try.ntmps65
    go_wp2
    go_ret
    exact ⟨bool_eq (bitZ_neg s i h0).symm, rfl⟩
  · by_cases h1 : i < 8 * (s.size : Int)
    · obtain ⟨i, rfl⟩ := Int.eq_ofNat_of_zero_le (show 0 ≤ i by omega)
      have h2 : i < 8 * s.size := by omega
      clear h0 h1
      go_enter Try.func65, Try.ntmps65
      go_wp2
      go_ret
      exact ⟨bool_eq (by rw [bitZ_in s i h2]; exact mod_two _ _ (UInt8.toNat_lt _)), rfl⟩
    · go_enter Try.func65, Try.ntmps65
      go_wp2
      go_ret
      exact ⟨bool_eq (bitZ_out s i (by omega)).symm, rfl⟩

/-- a number as one of a text's bits -/
def inZ (s : ByteArray) (n : Int) : Nat := min n.toNat (8 * s.size)

set_option maxHeartbeats 400000 in
theorem within_any (s : ByteArray) (n : Int) (w : World) (hs : s.size ≤ 1048576) :
    Calls Try.prog 70 #[.string s, .int .i64 n] w fun e w' => e = .returned (.int .i64 (inZ s n : Nat)) ∧ w = w' := by
  by_cases h0 : n < 0
  · go_enter Try.func70, Try.ntmps70
    go_wp2
    go_ret
    exact ⟨int_eq (by unfold inZ; omega), rfl⟩
  · by_cases h1 : 8 * (s.size : Int) < n
    · go_enter Try.func70, Try.ntmps70
      go_wp2_with fail
      refine (count_any _ _ hs).mono ?_
      rintro e w1 ⟨rfl, rfl⟩
      go_wp2_with fail
      refine (count_any _ _ hs).mono ?_
      rintro e w1 ⟨rfl, rfl⟩
      go_wp2
      go_ret
      exact ⟨int_eq (by unfold inZ; omega), rfl⟩
    · go_enter Try.func70, Try.ntmps70
      go_wp2_with fail
      refine (count_any _ _ hs).mono ?_
      rintro e w1 ⟨rfl, rfl⟩
      go_wp2
      go_ret
      exact ⟨int_eq (by unfold inZ; omega), rfl⟩

set_option maxHeartbeats 400000 in
theorem high_in (r : Nat) (w : World) (h : r ≤ 8) :
    Calls Try.prog 71 #[.int .i64 r] w fun e w' => e = .returned (.int .u8 ((255 * 2 ^ (8 - r) % 256 : Nat) : Int)) ∧ w = w' := by
  go_enter Try.func71, Try.ntmps71
  go_wp2
  go_ret
  exact ⟨int_eq (by simp), rfl⟩

theorem xor_byte (a b : UInt8) : bits BinOp.xor IntKind.u8 (a.toNat : Int) (b.toNat : Int) = ((a.toNat ^^^ b.toNat : Nat) : Int) :=
  u8_xor_nat _ _ (UInt8.toNat_lt _) (UInt8.toNat_lt _)

theorem take_snoc (s : ByteArray) (k : Nat) (h : k < s.size) : s.data.toList.take (k + 1) = s.data.toList.take k ++ [s[k]] := by
  rw [List.take_succ_eq_append_getElem (by simpa using h)]; rfl

theorem bitZ_nat (s : ByteArray) (i : Nat) : bitZ s i = bitL s.data.toList i := by unfold bitZ; simp

end Go.Proofs.Ythfdcmijciclkaa.Bits
