/-
  Contracts of the calls that only reckon: Bit, its bounds, a byte's mask and its noughts ahead, Alike; and the document's own.
-/
import Derived.Test.YtfaobpmbiocafaaBits
import Derived.WalkKit
import Derived.ProofKit
import Derived.OpenShut
import Derived.ShutString
import Derived.Below
import Derived.Lib.Hide
import Derived.WalkLawsBesides
import Derived.Outline
import Derived.RegionTactic
import Derived.Deep.RegionWith
import Derived.StillTailTactics
import Derived.Deep.RegionHeld3
import Derived.Deep.QuietTactic
import Derived.BigQuiet
import Derived.IntWalk
import Derived.LoopTactic
import Derived.Laws.IdiomStrings
namespace Go.Proofs.Ytfaobpmbiocafaa.Bits
open Go.ChangeShapes Go.WideShapes Go.ChangeAt Go.RowKit
set_option linter.unusedVariables false
set_option maxRecDepth 100000

theorem bool_eq {a b : Bool} (h : a = b) : Ending.returned (.bool a) = .returned (.bool b) := by rw [h]
theorem int_eq {k : IntKind} {a b : Int} (h : a = b) : Ending.returned (.int k a) = .returned (.int k b) := by rw [h]

/-- the i-th bit of a text, false if there is none -/
def bitZ (s : ByteArray) (i : Int) : Bool := decide (0 ≤ i) && bitL s.data.toList i.toNat

theorem len_list (s : ByteArray) : s.data.toList.length = s.size := by simp
theorem getD_byte (s : ByteArray) (k : Nat) (h : k < s.size) : s.data.toList.getD k 0 = s[k] := by
  rw [getD_in _ _ (by simpa using h)]; rfl

theorem bitZ_in (s : ByteArray) (i : Nat) (h : i < 8 * s.size) : bitZ s i = (s[i / 8].toNat / 2 ^ (7 - i % 8) % 2 == 1) := by
  unfold bitZ bitL
  rw [Int.toNat_natCast, getD_byte s (i / 8) (by omega), bitN_eq]
  simp
theorem bitZ_neg (s : ByteArray) (i : Int) (h : i < 0) : bitZ s i = false := by unfold bitZ; simp; omega
theorem bitZ_out (s : ByteArray) (i : Int) (h : 8 * (s.size : Int) ≤ i) : bitZ s i = false := by
  unfold bitZ; rw [bitL_out _ _ (by rw [len_list]; omega)]; simp

theorem and_one (b k : Nat) (hb : b < 256) : (bits BinOp.and IntKind.u8 ((b : Int) / 2 ^ k) 1 == 1) = (b / 2 ^ k % 2 == 1) := by
  have h1 : (b : Int) / 2 ^ k = ((b / 2 ^ k : Nat) : Int) := by simp
  have h2 : b / 2 ^ k ≤ b := Nat.div_le_self _ _
  rw [h1]
  generalize b / 2 ^ k = m at h2 ⊢
  rw [u8_and _ _ (by omega) (by omega) (by omega) (by omega)]
  rw [Int.toNat_natCast, show (1 : Int).toNat = 1 from rfl, Nat.and_one_is_mod]
  rw [Bool.eq_iff_iff]; simp; omega

theorem mod_two (b k : Nat) (hb : b < 256) : ((wrap64 (b : Int) / 2 ^ k).tmod 2 == 1) = (b / 2 ^ k % 2 == 1) := by
  rw [IntWalk.wrap64_in _ (by omega)]
  have h1 : (b : Int) / 2 ^ k = ((b / 2 ^ k : Nat) : Int) := by simp
  rw [h1]
  generalize b / 2 ^ k = m
  rw [Int.tmod_eq_emod_of_nonneg (by omega)]
  rw [Bool.eq_iff_iff]; simp; omega

set_option maxHeartbeats 400000 in
theorem count_any (s : ByteArray) (w : World) (hs : s.size ≤ 1048576) :
    Calls Try.prog 111 #[.string s] w fun e w' => e = .returned (.int .i64 (8 * (s.size : Nat) : Int)) ∧ w = w' := by
  go_enter Try.func111, Try.ntmps111
  go_wp2
  go_ret
  exact ⟨rfl, rfl⟩

set_option maxHeartbeats 400000 in
theorem rbit_any (s : ByteArray) (i : Int) (w : World) (hs : s.size ≤ 1048576) :
    Calls Try.prog 95 #[.string s, .int .i64 i] w fun e w' => e = .returned (.bool (bitZ s i)) ∧ w = w' := by
  by_cases h0 : i < 0
  · go_enter Try.func95, Try.ntmps95
    go_wp2
    go_ret
    exact ⟨bool_eq (bitZ_neg s i h0).symm, rfl⟩
  · by_cases h1 : i < 8 * (s.size : Int)
    · obtain ⟨i, rfl⟩ := Int.eq_ofNat_of_zero_le (show 0 ≤ i by omega)
      have h2 : i < 8 * s.size := by omega
      clear h0 h1
      go_enter Try.func95, Try.ntmps95
      go_wp2
      go_ret
      exact ⟨bool_eq (by rw [bitZ_in s i h2]; exact mod_two _ _ (UInt8.toNat_lt _)), rfl⟩
    · go_enter Try.func95, Try.ntmps95
      go_wp2
      go_ret
      exact ⟨bool_eq (bitZ_out s i (by omega)).symm, rfl⟩

/-- a number as one of a text's bits -/
def inZ (s : ByteArray) (n : Int) : Nat := min n.toNat (8 * s.size)

set_option maxHeartbeats 400000 in
theorem within_any (s : ByteArray) (n : Int) (w : World) (hs : s.size ≤ 1048576) :
    Calls Try.prog 112 #[.string s, .int .i64 n] w fun e w' => e = .returned (.int .i64 (inZ s n : Nat)) ∧ w = w' := by
  by_cases h0 : n < 0
  · go_enter Try.func112, Try.ntmps112
    go_wp2
    go_ret
    exact ⟨int_eq (by unfold inZ; omega), rfl⟩
  · by_cases h1 : 8 * (s.size : Int) < n
    · go_enter Try.func112, Try.ntmps112
      go_wp2_with fail
      refine (count_any _ _ hs).mono ?_
      rintro e w1 ⟨rfl, rfl⟩
      go_wp2_with fail
      refine (count_any _ _ hs).mono ?_
      rintro e w1 ⟨rfl, rfl⟩
      go_wp2
      go_ret
      exact ⟨int_eq (by unfold inZ; omega), rfl⟩
    · go_enter Try.func112, Try.ntmps112
      go_wp2_with fail
      refine (count_any _ _ hs).mono ?_
      rintro e w1 ⟨rfl, rfl⟩
      go_wp2
      go_ret
      exact ⟨int_eq (by unfold inZ; omega), rfl⟩

set_option maxHeartbeats 400000 in
theorem high_in (r : Nat) (w : World) (h : r ≤ 8) :
    Calls Try.prog 113 #[.int .i64 r] w fun e w' => e = .returned (.int .u8 ((255 * 2 ^ (8 - r) % 256 : Nat) : Int)) ∧ w = w' := by
  go_enter Try.func113, Try.ntmps113
  go_wp2
  go_ret
  exact ⟨int_eq (by simp), rfl⟩

set_option maxHeartbeats 400000 in
theorem ahead_any (b : Nat) (w : World) (h : b < 256) :
    Calls Try.prog 110 #[.int .u8 b] w fun e w' => e = .returned (.int .i64 (noughts b : Nat)) ∧ w = w' := by
  go_enter Try.func110, Try.ntmps110
  go_wp2
  go_loop [3] (fun i => ∃ k : Nat, k ≤ 8 ∧ i = .int .i64 k ∧ b < 2 ^ (8 - k)) (fun i => 8 - (intOf i).toNat)
  case atStart => exact ⟨0, by omega, rfl, by omega⟩
  case round =>
    obtain ⟨k, hk, rfl, hb⟩ := hrel
    have HB := Lib.hid hb
    clear hb
    by_cases hlt : k < 8
    · have hd : ((b : Int) / 2 ^ (7 - k) == 0) = decide (b < 2 ^ (7 - k)) := by
        have h1 : (b : Int) / 2 ^ (7 - k) = ((b / 2 ^ (7 - k) : Nat) : Int) := by simp
        rw [h1, Bool.eq_iff_iff]
        simp only [beq_iff_eq, decide_eq_true_eq]
        rw [show (((b / 2 ^ (7 - k) : Nat) : Int) = 0) ↔ b / 2 ^ (7 - k) = 0 by omega, Nat.div_eq_zero_iff_lt (Nat.two_pow_pos _)]
      by_cases hc : b < 2 ^ (7 - k)
      · rw [decide_eq_true hc] at hd
        have HC := Lib.hid hc
        clear hc
        go_wp2
        go_round
        case rel => exact ⟨k + 1, by omega, by go_num, by rw [show 8 - (k + 1) = 7 - k by omega]; exact HC.out⟩
        case measure => simp [intOf]; omega
      · rw [decide_eq_false hc] at hd
        have HN := Lib.hid (noughts_eq b k hk HB.out (fun _ => by omega))
        clear hc
        go_wp2
        go_ret
        exact ⟨int_eq (by rw [HN.out]), rfl⟩
    · obtain rfl : k = 8 := by omega
      have HN := Lib.hid (noughts_eq b 8 hk HB.out (fun h => by omega))
      go_wp2
      go_ret
      exact ⟨int_eq (by rw [HN.out]; rfl), rfl⟩

theorem xor_byte (a b : UInt8) : bits BinOp.xor IntKind.u8 (a.toNat : Int) (b.toNat : Int) = ((a.toNat ^^^ b.toNat : Nat) : Int) :=
  u8_xor_nat _ _ (UInt8.toNat_lt _) (UInt8.toNat_lt _)

theorem take_snoc (s : ByteArray) (k : Nat) (h : k < s.size) : s.data.toList.take (k + 1) = s.data.toList.take k ++ [s[k]] := by
  rw [List.take_succ_eq_append_getElem (by simpa using h)]; rfl

set_option maxHeartbeats 1600000 in
theorem alike_any (a b : ByteArray) (w : World) (ha : a.size ≤ 1048576) (hb : b.size ≤ 1048576) :
    Calls Try.prog 104 #[.string a, .string b] w fun e w' => e = .returned (.int .i64 (alikeN a.data.toList b.data.toList : Nat)) ∧ Below w.heap.size w w' := by
  go_enter Try.func104, Try.ntmps104
  go_wp2
  go_loopw [5] (fun i wr => ∃ k : Nat, k ≤ a.size ∧ k ≤ b.size ∧ i = .int .i64 k ∧ a.data.toList.take k = b.data.toList.take k ∧ Hid (Below w.heap.size w wr)) (fun i _ => a.size - (intOf i).toNat)
  case atStart => exact ⟨0, Nat.zero_le _, Nat.zero_le _, rfl, rfl, Lib.hid (Below.refl _ _)⟩
  case round =>
    obtain ⟨k, hka, hkb, rfl, ht, HB⟩ := hrel
    have HT := Lib.hid ht
    clear ht
    by_cases hla : k < a.size
    · by_cases hlb : k < b.size
      · have hta := Lib.hid (take_snoc a k hla)
        have htb := Lib.hid (take_snoc b k hlb)
        by_cases heq : a[k].toNat = b[k].toNat
        · have HN : Hid (a.data.toList.take (k + 1) = b.data.toList.take (k + 1)) := by
            have : a[k] = b[k] := UInt8.toNat_inj.1 heq
            exact Lib.hid (by rw [hta.out, htb.out, HT.out, this])
          clear hta htb
          have hne : ((a[k].toNat : Int) != (b[k].toNat : Int)) = false := by simp [heq]
          go_wp2
          go_quiet (fail)
          go_wp2
          go_roundw
          case rel => exact ⟨k + 1, hla, hlb, by go_num, HN.out, Lib.hid (below_drewN HB.out _)⟩
          case measure => simp [intOf]; omega
        · have HD := Lib.hid (alike_differ a.data.toList b.data.toList k (by simpa using hla) (by simpa using hlb) HT.out heq)
          have hx := xor_byte a[k] b[k]
          have hxl : a[k].toNat ^^^ b[k].toNat < 256 := Nat.xor_lt_two_pow (n := 8) (UInt8.toNat_lt _) (UInt8.toNat_lt _)
          have hne : ((a[k].toNat : Int) != (b[k].toNat : Int)) = true := by simp; omega
          have hn8 := noughts_le (a[k].toNat ^^^ b[k].toNat)
          have HA := Lib.hid (fun w : World => (ahead_any (a[k].toNat ^^^ b[k].toNat) w hxl).mono fun e w' (h : e = .returned (.int .i64 (noughts (a[k].toNat ^^^ b[k].toNat) : Nat)) ∧ w = w') => And.intro h.1 h.2.symm)
          clear hta htb heq hxl
          go_wp2
          go_quiet (fail)
          have HB2 := Lib.hid (below_drewN HB.out nq)
          generalize wr.drewN nq = wq at *
          go_wp2
          go_quiet (first | (go_at_call 110; refine Calls.quiet_of_same (HA.out _)))
          go_wp2
          go_ret
          exact ⟨int_eq (by rw [HD.out]; simp; rfl), below_drewN HB2.out _⟩
      · obtain rfl : k = b.size := by omega
        have HF := Lib.hid (alike_full a.data.toList b.data.toList (by rw [show min a.data.toList.length b.data.toList.length = b.size by simp; omega]; exact HT.out))
        by_cases hlt : a.size < b.size
        · omega
        · go_wp2_with fail
          refine (count_any _ _ hb).mono ?_
          rintro e w1 ⟨rfl, rfl⟩
          go_wp2
          go_ret
          exact ⟨int_eq (by rw [HF.out]; simp; omega), HB.out⟩
    · obtain rfl : k = a.size := by omega
      have HF := Lib.hid (alike_full a.data.toList b.data.toList (by rw [show min a.data.toList.length b.data.toList.length = a.size by simp; omega]; exact HT.out))
      by_cases hlt : a.size < b.size
      · go_wp2_with fail
        refine (count_any _ _ ha).mono ?_
        rintro e w1 ⟨rfl, rfl⟩
        go_wp2
        go_ret
        exact ⟨int_eq (by rw [HF.out]; simp; omega), HB.out⟩
      · go_wp2_with fail
        refine (count_any _ _ hb).mono ?_
        rintro e w1 ⟨rfl, rfl⟩
        go_wp2
        go_ret
        exact ⟨int_eq (by rw [HF.out]; simp; omega), HB.out⟩

theorem bitZ_nat (s : ByteArray) (i : Nat) : bitZ s i = bitL s.data.toList i := by unfold bitZ; simp

end Go.Proofs.Ytfaobpmbiocafaa.Bits
