/-
  Whether Subs may be: the program's Right and the document's; whether they are few, and the same, as the statements ask. Condition: lists of at most 2^20 elements.
-/
import Derived.Test.YtgfjhemfhfdklaaS1
import Derived.Test.YtgfjhemfhfdklaaSm
namespace Go.Proofs.Ytgfjhemfhfdklaa.S2
open Go.ChangeShapes Go.WideShapes Go.ChangeAt Go.RowKit
open Go.Proofs.Ytgfjhemfhfdklaa.Ms
open Go.Proofs.Ytgfjhemfhfdklaa.Cnt
open Go.Proofs.Ytgfjhemfhfdklaa.S1
open Go.Proofs.Ytgfjhemfhfdklaa.Sm
set_option linter.unusedVariables false
set_option maxRecDepth 100000

set_option maxHeartbeats 1600000 in
theorem right_any (a : Option Addr) (c : Nat) (l : List El) (w : World) (hl : SRow w a l) (ln : l.length ≤ 1048576) (lb : ∀ x ∈ l, x.1.size ≤ 1099511627776) :
    Calls Try.prog 12 #[.slice a l.length c] w fun e w' => e = .returned (.bool (okS l)) ∧ Below w.heap.size w w' := by
  have P := Lib.hid (may_any a c l 2 127 w hl ln lb)
  clear lb
  cases hm : mayB l 2 127
  · have HK : Hid (okS l = false) := Lib.hid (by unfold okS; rw [hm]; rfl)
    rw [hm] at P
    clear hm hl ln
    go_enter Try.func12, Try.ntmps12
    go_wp2_with fail
    refine P.out.mono ?_
    rintro e w1 ⟨rfl, hb⟩
    go_wp2
    go_ret
    exact ⟨bool_eq HK.out.symm, hb⟩
  · have HB := bytesN_most hm
    have PB := Lib.hid (fun W (hb : Below w.heap.size w W) => bytes_any a c l W (hl.below hb) ln (by omega))
    have hb1 : ((bytesN l : Nat) : Int) ≤ 269484032 := by omega
    have hb0 : 0 ≤ ((bytesN l : Nat) : Int) := Int.natCast_nonneg _
    have HK : Hid (okS l = decide (((bytesN l : Nat) : Int) ≤ 200)) := Lib.hid (by unfold okS; rw [hm, Bool.true_and]; simp; omega)
    rw [hm] at P
    clear hm hl ln HB
    generalize ((bytesN l : Nat) : Int) = n at *
    go_enter Try.func12, Try.ntmps12
    go_wp2_with fail
    refine P.out.mono ?_
    rintro e w1 ⟨rfl, hb⟩
    have HB := Lib.hid hb
    clear hb P
    go_wp2_with fail
    refine (PB.out _ HB.out).mono ?_
    rintro e w2 ⟨rfl, hb⟩
    have HB := Lib.hid (bcall HB.out hb)
    clear hb PB
    go_wp2
    go_ret
    exact ⟨bool_eq HK.out.symm, HB.out⟩
set_option maxHeartbeats 1600000 in
theorem rright_any (a : Option Addr) (c : Nat) (l : List El) (w : World) (hl : SRow w a l) (ln : l.length ≤ 1048576) (lb : ∀ x ∈ l, x.1.size ≤ 1099511627776) :
    Calls Try.prog 13 #[.slice a l.length c] w fun e w' => e = .returned (.bool (okS l)) ∧ Below w.heap.size w w' := by
  have P := Lib.hid (rmay_any a c l 2 127 w hl ln lb)
  clear lb
  cases hm : mayB l 2 127
  · have HK : Hid (okS l = false) := Lib.hid (by unfold okS; rw [hm]; rfl)
    rw [hm] at P
    clear hm hl ln
    go_enter Try.func13, Try.ntmps13
    go_wp2_with fail
    refine P.out.mono ?_
    rintro e w1 ⟨rfl, hb⟩
    go_wp2
    go_ret
    exact ⟨bool_eq HK.out.symm, hb⟩
  · have HB := bytesN_most hm
    have PB := Lib.hid (fun W (hb : Below w.heap.size w W) => rbytes_any a c l W (hl.below hb) ln (by omega))
    have hb1 : ((bytesN l : Nat) : Int) ≤ 269484032 := by omega
    have hb0 : 0 ≤ ((bytesN l : Nat) : Int) := Int.natCast_nonneg _
    have HK : Hid (okS l = decide (((bytesN l : Nat) : Int) ≤ 200)) := Lib.hid (by unfold okS; rw [hm, Bool.true_and]; simp; omega)
    rw [hm] at P
    clear hm hl ln HB
    generalize ((bytesN l : Nat) : Int) = n at *
    go_enter Try.func13, Try.ntmps13
    go_wp2_with fail
    refine P.out.mono ?_
    rintro e w1 ⟨rfl, hb⟩
    have HB := Lib.hid hb
    clear hb P
    go_wp2_with fail
    refine (PB.out _ HB.out).mono ?_
    rintro e w2 ⟨rfl, hb⟩
    have HB := Lib.hid (bcall HB.out hb)
    clear hb PB
    go_wp2
    go_ret
    exact ⟨bool_eq HK.out.symm, HB.out⟩
set_option maxHeartbeats 1600000 in
theorem few_any (a : Option Addr) (c : Nat) (l : List El) (w : World) (hl : SRow w a l) :
    Calls Try.prog 6 #[.slice a l.length c] w fun e w' => e = .returned (.bool (fewS l)) ∧ Below w.heap.size w w' := by
  have P := Lib.hid (Few.few_any (mS a l c) w (DRow.nil _ _) hl)
  rw [few_mS] at P
  have HB := Lib.hid (built_mS a l.length c l rfl)
  clear hl
  go_enter Try.func6, Try.ntmps6
  go_wp2_with (first | (refine Bk.wpList_builtK rfl 38 _ rfl (mS a l c).cells HB.out ?_))
  refine P.out.mono ?_
  rintro e w1 ⟨rfl, hb⟩
  go_wp2
  go_ret
  exact ⟨rfl, hb⟩
set_option maxHeartbeats 1600000 in
theorem same_any (a b : Option Addr) (c d : Nat) (l m : List El) (w : World) (hl : SRow w a l) (hm : SRow w b m) (ln : l.length ≤ 1048576) (lm : m.length ≤ 1048576) :
    Calls Try.prog 14 #[.slice a l.length c, .slice b m.length d] w fun e w' => e = .returned (.bool (decide (l = m))) ∧ Below w.heap.size w w' := by
  have P := Lib.hid (RSame.rsame_any (mS a l c) (mS b m d) w (in_mS hl ln) (in_mS hm lm))
  rw [same_mS] at P
  have HB := Lib.hid (built_mS a l.length c l rfl)
  have HC := Lib.hid (built_mS b m.length d m rfl)
  clear hl hm ln lm
  generalize decide (l = m) = r at *
  go_enter Try.func14, Try.ntmps14
  go_wp2_with (first | (refine Bk.wpList_builtK rfl 38 _ rfl (mS a l c).cells HB.out ?_) | (refine Bk.wpList_builtK rfl 38 _ rfl (mS b m d).cells HC.out ?_))
  refine P.out.mono ?_
  rintro e w1 ⟨rfl, hb⟩
  go_wp2
  go_ret
  exact ⟨rfl, hb⟩
end Go.Proofs.Ytgfjhemfhfdklaa.S2
