/-
  The lists of two messages, the program's comparison of them (slices.Equal) and the document's: whether they are the same. Condition: lists of at most 2^20 elements.
-/
import Derived.Test.YtgfjhemfhfdklaaMs
namespace Go.Proofs.Ytgfjhemfhfdklaa.Eq
open Go.ChangeShapes Go.WideShapes Go.ChangeAt Go.RowKit
open Go.Proofs.Ytgfjhemfhfdklaa.Ms
set_option linter.unusedVariables false
set_option maxRecDepth 100000

set_option maxHeartbeats 1600000 in
theorem rdests_any (a b : Option Addr) (ca cb : Nat) (x y : List El) (w : World) (hx : DRow w a x) (hy : DRow w b y) (lx : x.length ≤ 1048576) (ly : y.length ≤ 1048576) :
    Calls Try.prog 35 #[.slice a x.length ca, .slice b y.length cb] w fun e w' => e = .returned (.bool (decide (x = y))) ∧ Below w.heap.size w w' := by
  by_cases hl : x.length = y.length
  · have HL := Lib.hid hl
    go_enter Try.func35, Try.ntmps35
    go_wp2
    go_loopw [5] (fun i wr => ∃ k : Nat, k ≤ x.length ∧ i = .int .i64 k ∧ Hid (x.take k = y.take k) ∧ Hid (Below w.heap.size w wr)) (fun i _ => x.length - (intOf i).toNat)
    case atStart => exact ⟨0, Nat.zero_le _, rfl, Lib.hid rfl, Lib.hid (Below.refl _ _)⟩
    case round =>
      obtain ⟨k, hk, rfl, HT, HB⟩ := hrel
      by_cases hlt : k < x.length
      · have hlt2 : k < y.length := by omega
        obtain ⟨p, rfl, _, c0, c1⟩ := (hx.below HB.out) k hlt
        obtain ⟨q, rfl, _, d0, d1⟩ := (hy.below HB.out) k hlt2
        have i0 := indexD p x.length ca k hlt
        have i1 := indexD q y.length cb k hlt2
        have g0 := run_neqDest x[k] y[k]
        have g1 := run_guardDest x[k] y[k]
        have HS := Lib.hid (take_two x y k hlt hlt2 HT.out)
        have HD := Lib.hid (show x = y → x[k] = y[k] from fun h => by simp [h])
        clear HT hx hy
        generalize x[k] = u at *
        generalize y[k] = v at *
        rw [add_one] at c1 d1
        by_cases he : u = v
        · have g2 : elE u v = true := by simp [elE, he]
          have HE := Lib.hid he
          clear he
          go_wp2
          go_quiet (fail)
          go_wp2
          go_roundw
          case rel => exact ⟨k + 1, hlt, by go_num, Lib.hid (HS.out HE.out), Lib.hid (below_drewN HB.out _)⟩
          case measure => simp [intOf]; omega
        · have g2 : elE u v = false := by simp [elE, he]
          have HE := Lib.hid he
          clear he
          go_wp2
          go_quiet (fail)
          go_wp2
          go_ret
          exact ⟨bool_eq (by simp; intro h; exact HE.out (HD.out h)), below_drewN HB.out _⟩
      · obtain rfl : k = x.length := by omega
        have he : x = y := by
          have h := HT.out
          rwa [List.take_length, HL.out, List.take_length] at h
        have HE := Lib.hid he
        clear he
        go_wp2
        go_ret
        exact ⟨bool_eq (by simpa using HE.out), HB.out⟩
  · go_enter Try.func35, Try.ntmps35
    go_wp2
    go_ret
    exact ⟨bool_eq (by simp; intro h; exact hl (by rw [h])), Below.refl _ _⟩
set_option maxHeartbeats 1600000 in
theorem rsubs_any (a b : Option Addr) (ca cb : Nat) (x y : List El) (w : World) (hx : SRow w a x) (hy : SRow w b y) (lx : x.length ≤ 1048576) (ly : y.length ≤ 1048576) :
    Calls Try.prog 36 #[.slice a x.length ca, .slice b y.length cb] w fun e w' => e = .returned (.bool (decide (x = y))) ∧ Below w.heap.size w w' := by
  by_cases hl : x.length = y.length
  · have HL := Lib.hid hl
    go_enter Try.func36, Try.ntmps36
    go_wp2
    go_loopw [5] (fun i wr => ∃ k : Nat, k ≤ x.length ∧ i = .int .i64 k ∧ Hid (x.take k = y.take k) ∧ Hid (Below w.heap.size w wr)) (fun i _ => x.length - (intOf i).toNat)
    case atStart => exact ⟨0, Nat.zero_le _, rfl, Lib.hid rfl, Lib.hid (Below.refl _ _)⟩
    case round =>
      obtain ⟨k, hk, rfl, HT, HB⟩ := hrel
      by_cases hlt : k < x.length
      · have hlt2 : k < y.length := by omega
        obtain ⟨p, rfl, _, c0, c1⟩ := (hx.below HB.out) k hlt
        obtain ⟨q, rfl, _, d0, d1⟩ := (hy.below HB.out) k hlt2
        have i0 := indexS p x.length ca k hlt
        have i1 := indexS q y.length cb k hlt2
        have g0 := run_neqSub x[k] y[k]
        have g1 := run_guardSub x[k] y[k]
        have HS := Lib.hid (take_two x y k hlt hlt2 HT.out)
        have HD := Lib.hid (show x = y → x[k] = y[k] from fun h => by simp [h])
        clear HT hx hy
        generalize x[k] = u at *
        generalize y[k] = v at *
        rw [add_one] at c1 d1
        by_cases he : u = v
        · have g2 : elE u v = true := by simp [elE, he]
          have HE := Lib.hid he
          clear he
          go_wp2
          go_quiet (fail)
          go_wp2
          go_roundw
          case rel => exact ⟨k + 1, hlt, by go_num, Lib.hid (HS.out HE.out), Lib.hid (below_drewN HB.out _)⟩
          case measure => simp [intOf]; omega
        · have g2 : elE u v = false := by simp [elE, he]
          have HE := Lib.hid he
          clear he
          go_wp2
          go_quiet (fail)
          go_wp2
          go_ret
          exact ⟨bool_eq (by simp; intro h; exact HE.out (HD.out h)), below_drewN HB.out _⟩
      · obtain rfl : k = x.length := by omega
        have he : x = y := by
          have h := HT.out
          rwa [List.take_length, HL.out, List.take_length] at h
        have HE := Lib.hid he
        clear he
        go_wp2
        go_ret
        exact ⟨bool_eq (by simpa using HE.out), HB.out⟩
  · go_enter Try.func36, Try.ntmps36
    go_wp2
    go_ret
    exact ⟨bool_eq (by simp; intro h; exact hl (by rw [h])), Below.refl _ _⟩
end Go.Proofs.Ytgfjhemfhfdklaa.Eq
