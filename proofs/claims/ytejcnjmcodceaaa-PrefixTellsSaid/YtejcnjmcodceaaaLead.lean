/-
  Lead, of the document's own: byte by byte; and the document's example.
-/
import Derived.Test.YtejcnjmcodceaaaPre
import Derived.BigQuiet
namespace Go.Proofs.Ytejcnjmcodceaaa.Pre
open Go.ChangeShapes Go.WideShapes Go.ChangeAt Go.RowKit
open Go.Proofs.Ytejcnjmcodceaaa.Bits
set_option linter.unusedVariables false

set_option maxHeartbeats 1600000 in
theorem rlead_any (a b : ByteArray) (w : World) (ha : a.size ≤ 1048576) (hb : b.size ≤ 1048576) :
    Calls Try.prog 16 #[.string a, .string b] w fun e w' => e = .returned (.int .i64 (leadN a b : Nat)) ∧ Below w.heap.size w w' := by
  go_enter Try.func16, Try.ntmps16
  go_wp2
  go_loopw [5] (fun i wr => ∃ k : Nat, k ≤ a.size ∧ k ≤ b.size ∧ i = .int .i64 k ∧ a.data.toList.take k = b.data.toList.take k ∧ Hid (Below w.heap.size w wr)) (fun i _ => a.size - (intOf i).toNat)
  case atStart => exact ⟨0, Nat.zero_le _, Nat.zero_le _, rfl, rfl, Lib.hid (Below.refl _ _)⟩
  case round =>
    obtain ⟨k, hka, hkb, rfl, ht, HB⟩ := hrel
    have HT := Lib.hid ht
    clear ht
    by_cases hla : k < a.size
    · by_cases hlb : k < b.size
      · have hta := Lib.hid (take_snoc a k hla)
        have htb := Lib.hid (take_snoc b k hlb)
        by_cases heq : a[k].toNat = b[k].toNat
        · have HN : Hid (a.data.toList.take (k + 1) = b.data.toList.take (k + 1)) := by
            have : a[k] = b[k] := UInt8.toNat_inj.1 heq
            exact Lib.hid (by rw [hta.out, htb.out, HT.out, this])
          clear hta htb
          have hne : ((a[k].toNat : Int) == (b[k].toNat : Int)) = true := by simp [heq]
          go_wp2
          go_quiet (fail)
          go_wp2
          go_roundw
          case rel => exact ⟨k + 1, hla, hlb, by go_num, HN.out, Lib.hid (below_drewN HB.out _)⟩
          case measure => simp [intOf]; omega
        · have HD : Hid (leadN a b = k) := by
            obtain ⟨z, hz, hz8, _, _⟩ := xor_noughts a[k].toNat b[k].toNat (UInt8.toNat_lt _) (UInt8.toNat_lt _) heq
            have := alike_differ a.data.toList b.data.toList k (by simpa using hla) (by simpa using hlb) HT.out heq
            refine Lib.hid ?_
            unfold leadN
            rw [this]
            show (8 * k + noughts (a[k].toNat ^^^ b[k].toNat)) / 8 = k
            rw [hz]
            omega
          have hne : ((a[k].toNat : Int) == (b[k].toNat : Int)) = false := by simp; omega
          clear hta htb heq
          go_wp2
          go_quiet (fail)
          go_wp2
          go_ret
          exact ⟨int_eq (by rw [HD.out]), below_drewN HB.out _⟩
      · obtain rfl : k = b.size := by omega
        have HF := Lib.hid (alike_full a.data.toList b.data.toList (by rw [show min a.data.toList.length b.data.toList.length = b.size by simp; omega]; exact HT.out))
        have HD : Hid (leadN a b = b.size) := Lib.hid (by unfold leadN; rw [HF.out]; simp; omega)
        go_wp2
        go_quiet (fail)
        go_wp2
        go_ret
        exact ⟨int_eq (by rw [HD.out]), below_drewN HB.out _⟩
    · obtain rfl : k = a.size := by omega
      have HF := Lib.hid (alike_full a.data.toList b.data.toList (by rw [show min a.data.toList.length b.data.toList.length = a.size by simp; omega]; exact HT.out))
      have HD : Hid (leadN a b = a.size) := Lib.hid (by unfold leadN; rw [HF.out]; simp; omega)
      go_wp2
      go_quiet (fail)
      go_wp2
      go_ret
      exact ⟨int_eq (by rw [HD.out]), below_drewN HB.out _⟩

theorem ex_r23 : rightZ (ByteArray.mk #[10, 1, 2, 0]) 23 = true := by decide
theorem ex_r22 : rightZ (ByteArray.mk #[10, 1, 2, 0]) 22 = false := by decide
theorem ex_least : leastN 23 = 3 := by decide
theorem ex_cut : cutL (ByteArray.mk #[10, 1, 2, 0]).data.toList 23 = [10, 1, 2] := by decide
theorem ex_fill : fillL (ByteArray.mk #[10]).data.toList (4 : Int).toNat = [10, 0, 0, 0] := by decide
theorem ex_lead : leadN (ByteArray.mk #[97, 98, 99]) (ByteArray.mk #[97, 98, 100]) = 2 := by decide

set_option maxHeartbeats 800000 in
theorem awake_any (w : World) :
    Calls Try.prog 6 #[] w fun e w' => e = .returned (.bool true) ∧ Below w.heap.size w w' := by
  have P7 := Lib.hid (fun w => right_any (ByteArray.mk #[10, 1, 2, 0]) 23 w (by decide))
  have P8 := Lib.hid (fun w => right_any (ByteArray.mk #[10, 1, 2, 0]) 22 w (by decide))
  have P9 := Lib.hid (fun w => least_any 23 w (by decide))
  have P11 := Lib.hid (fun w => cut_any (ByteArray.mk #[10, 1, 2, 0]) 23 w (by decide) (by decide))
  have P13 := Lib.hid (fun w => fill_any (ByteArray.mk #[10]) 4 w (by decide) (by decide))
  have P15 := Lib.hid (fun w => lead_any (ByteArray.mk #[97, 98, 99]) (ByteArray.mk #[97, 98, 100]) w (by decide) (by decide))
  rw [ex_r23] at P7
  rw [ex_r22] at P8
  rw [ex_least] at P9
  rw [ex_cut] at P11
  rw [ex_fill] at P13
  rw [ex_lead] at P15
  go_enter Try.func6, Try.ntmps6
  go_wp2_with fail
  refine (P7.out _).mono ?_
  rintro e w1 ⟨rfl, hb1⟩
  go_wp2_with fail
  refine (P8.out _).mono ?_
  rintro e w2 ⟨rfl, hb2⟩
  replace hb2 := bcall hb1 hb2
  clear hb1
  go_wp2_with fail
  refine (P9.out _).mono ?_
  rintro e w3 ⟨rfl, rfl⟩
  go_wp2_with fail
  refine (P11.out _).mono ?_
  rintro e w3 ⟨rfl, hb3⟩
  replace hb3 := bcall hb2 hb3
  clear hb2
  go_wp2_with fail
  refine (P13.out _).mono ?_
  rintro e w4 ⟨rfl, hb4⟩
  replace hb4 := bcall hb3 hb4
  clear hb3
  go_wp2_with fail
  refine (P15.out _).mono ?_
  rintro e w5 ⟨rfl, hb5⟩
  replace hb5 := bcall hb4 hb5
  clear hb4
  go_wp2
  go_ret
  exact ⟨rfl, hb5⟩

end Go.Proofs.Ytejcnjmcodceaaa.Pre
