/-
  Lead, of the document's own: byte by byte; and the document's example.
-/
import Derived.Test.YtjhfpobjbijcpaaGreatDoorE09
import Derived.BigQuiet
namespace Go.Proofs.YtjhfpobjbijcpaaGreatDoor.Pre
open Go.ChangeShapes Go.WideShapes Go.ChangeAt Go.RowKit
open Go.Proofs.YtjhfpobjbijcpaaGreatDoor.Bits
set_option linter.unusedVariables false
set_option maxRecDepth 100000

set_option maxHeartbeats 1600000 in
theorem rlead_any (a b : ByteArray) (w : World) (ha : a.size ≤ 1048576) (hb : b.size ≤ 1048576) :
    Calls Tryz.prog 41 #[.string a, .string b] w fun e w' => e = .returned (.int .i64 (leadN a b : Nat)) ∧ Below w.heap.size w w' := by
  go_enter Tryz.func41, Tryz.ntmps41
  go_wp2
  go_loopw [5] (fun i wr => ∃ k : Nat, k ≤ a.size ∧ k ≤ b.size ∧ i = .int .i64 k ∧ a.data.toList.take k = b.data.toList.take k ∧ Hid (Below w.heap.size w wr)) (fun i _ => a.size - (intOf i).toNat)
  case atStart => exact ⟨0, Nat.zero_le _, Nat.zero_le _, rfl, rfl, Lib.hid (Below.refl _ _)⟩
  case round =>
    obtain ⟨k, hka, hkb, rfl, ht, HB⟩ := hrel
    have HT := Lib.hid ht
    clear ht
    by_cases hla : k < a.size
    · by_cases hlb : k < b.size
      · have hta := Lib.hid (take_snoc a k hla)
        have htb := Lib.hid (take_snoc b k hlb)
        by_cases heq : a[k].toNat = b[k].toNat
        · have HN : Hid (a.data.toList.take (k + 1) = b.data.toList.take (k + 1)) := by
            have : a[k] = b[k] := UInt8.toNat_inj.1 heq
            exact Lib.hid (by rw [hta.out, htb.out, HT.out, this])
          clear hta htb
          have hne : ((a[k].toNat : Int) == (b[k].toNat : Int)) = true := by simp [heq]
          go_wp2
          go_quiet (fail)
          go_wp2
          go_roundw
          case rel => exact ⟨k + 1, hla, hlb, by go_num, HN.out, Lib.hid (below_drewN HB.out _)⟩
          case measure => simp [intOf]; omega
        · have HD : Hid (leadN a b = k) := by
            obtain ⟨z, hz, hz8, _, _⟩ := xor_noughts a[k].toNat b[k].toNat (UInt8.toNat_lt _) (UInt8.toNat_lt _) heq
            have := alike_differ a.data.toList b.data.toList k (by simpa using hla) (by simpa using hlb) HT.out heq
            refine Lib.hid ?_
            unfold leadN
            rw [this]
            show (8 * k + noughts (a[k].toNat ^^^ b[k].toNat)) / 8 = k
            rw [hz]
            omega
          have hne : ((a[k].toNat : Int) == (b[k].toNat : Int)) = false := by simp; omega
          clear hta htb heq
          go_wp2
          go_quiet (fail)
          go_wp2
          go_ret
          exact ⟨int_eq (by rw [HD.out]), below_drewN HB.out _⟩
      · obtain rfl : k = b.size := by omega
        have HF := Lib.hid (alike_full a.data.toList b.data.toList (by rw [show min a.data.toList.length b.data.toList.length = b.size by simp; omega]; exact HT.out))
        have HD : Hid (leadN a b = b.size) := Lib.hid (by unfold leadN; rw [HF.out]; simp; omega)
        go_wp2
        go_quiet (fail)
        go_wp2
        go_ret
        exact ⟨int_eq (by rw [HD.out]), below_drewN HB.out _⟩
    · obtain rfl : k = a.size := by omega
      have HF := Lib.hid (alike_full a.data.toList b.data.toList (by rw [show min a.data.toList.length b.data.toList.length = a.size by simp; omega]; exact HT.out))
      have HD : Hid (leadN a b = a.size) := Lib.hid (by unfold leadN; rw [HF.out]; simp; omega)
      go_wp2
      go_quiet (fail)
      go_wp2
      go_ret
      exact ⟨int_eq (by rw [HD.out]), below_drewN HB.out _⟩

end Go.Proofs.YtjhfpobjbijcpaaGreatDoor.Pre
