/-
  The calls of layer 4, and the document's own: Least, Right, Cut, Fill, Lead.
-/
import Derived.Test.YthfdcmijciclkaaAwake
import Derived.Lib.MinMax
namespace Go.Proofs.Ythfdcmijciclkaa.Pre
open Go.ChangeShapes Go.WideShapes Go.ChangeAt Go.RowKit
open Go.Proofs.Ythfdcmijciclkaa.Bits
set_option linter.unusedVariables false
set_option maxRecDepth 100000

/-- how many bytes have the first n bits -/
def leastN (n : Int) : Nat := (n.toNat + 7) / 8

/-- is it a prefix? -/
def rightZ (s : ByteArray) (n : Int) : Bool := (decide (s.size = 4) || decide (s.size = 16)) && (decide (0 ≤ n) && (decide (n ≤ 8 * (s.size : Int)) && cleanZ s n))

set_option maxHeartbeats 800000 in
theorem right_any (s : ByteArray) (n : Int) (w : World) (hs : s.size ≤ maxLen) :
    Calls Try.prog 51 #[.string s, .int .i64 n] w fun e w' => e = .returned (.bool (rightZ s n)) ∧ Below w.heap.size w w' := by
  have hm := hs
  unfold maxLen at hm
  by_cases h4 : s.size = 4 ∨ s.size = 16
  · by_cases h0 : 0 ≤ n
    · by_cases h8 : n ≤ 8 * (s.size : Int)
      · have HC := Lib.hid (fun w => clean_any s n w (by omega))
        have HR : Hid (rightZ s n = cleanZ s n) := Lib.hid (by unfold rightZ; rcases h4 with h4 | h4 <;> simp [h4, h0] <;> omega)
        rw [HR.out]
        clear HR
        rcases h4 with h4 | h4
        · go_enter Try.func51, Try.ntmps51
          go_wp2_with fail
          refine (HC.out _).mono ?_
          rintro e w1 ⟨rfl, hb1⟩
          go_wp2
          go_ret
          exact ⟨rfl, hb1⟩
        · go_enter Try.func51, Try.ntmps51
          go_wp2_with fail
          refine (HC.out _).mono ?_
          rintro e w1 ⟨rfl, hb1⟩
          go_wp2
          go_ret
          exact ⟨rfl, hb1⟩
      · have HR : Hid (rightZ s n = false) := Lib.hid (by unfold rightZ; simp [h8])
        rw [HR.out]
        clear HR
        rcases h4 with h4 | h4
        · go_enter Try.func51, Try.ntmps51
          go_wp2
          go_ret
          exact ⟨rfl, Below.refl _ _⟩
        · go_enter Try.func51, Try.ntmps51
          go_wp2
          go_ret
          exact ⟨rfl, Below.refl _ _⟩
    · have HR : Hid (rightZ s n = false) := Lib.hid (by unfold rightZ; simp [h0])
      rw [HR.out]
      clear HR
      rcases h4 with h4 | h4
      · go_enter Try.func51, Try.ntmps51
        go_wp2
        go_ret
        exact ⟨rfl, Below.refl _ _⟩
      · go_enter Try.func51, Try.ntmps51
        go_wp2
        go_ret
        exact ⟨rfl, Below.refl _ _⟩
  · have HR : Hid (rightZ s n = false) := Lib.hid (by unfold rightZ; simp at h4; simp [h4])
    rw [HR.out]
    clear HR
    obtain ⟨ha, hb⟩ := not_or.1 h4
    clear h4
    go_enter Try.func51, Try.ntmps51
    go_wp2
    go_ret
    exact ⟨rfl, Below.refl _ _⟩

set_option maxHeartbeats 800000 in
theorem rright_any (s : ByteArray) (n : Int) (w : World) (hs : s.size ≤ maxLen) :
    Calls Try.prog 23 #[.string s, .int .i64 n] w fun e w' => e = .returned (.bool (rightZ s n)) ∧ Below w.heap.size w w' := by
  have hm := hs
  unfold maxLen at hm
  by_cases h4 : s.size = 4 ∨ s.size = 16
  · by_cases h0 : 0 ≤ n
    · by_cases h8 : n ≤ 8 * (s.size : Int)
      · have HC := Lib.hid (fun w => rclean_any s n w (by omega))
        have HR : Hid (rightZ s n = cleanZ s n) := Lib.hid (by unfold rightZ; rcases h4 with h4 | h4 <;> simp [h4, h0] <;> omega)
        rw [HR.out]
        clear HR
        rcases h4 with h4 | h4
        · go_enter Try.func23, Try.ntmps23
          go_wp2_with fail
          refine (HC.out _).mono ?_
          rintro e w1 ⟨rfl, hb1⟩
          go_wp2
          go_ret
          exact ⟨rfl, hb1⟩
        · go_enter Try.func23, Try.ntmps23
          go_wp2_with fail
          refine (HC.out _).mono ?_
          rintro e w1 ⟨rfl, hb1⟩
          go_wp2
          go_ret
          exact ⟨rfl, hb1⟩
      · have HR : Hid (rightZ s n = false) := Lib.hid (by unfold rightZ; simp [h8])
        rw [HR.out]
        clear HR
        rcases h4 with h4 | h4
        · go_enter Try.func23, Try.ntmps23
          go_wp2
          go_ret
          exact ⟨rfl, Below.refl _ _⟩
        · go_enter Try.func23, Try.ntmps23
          go_wp2
          go_ret
          exact ⟨rfl, Below.refl _ _⟩
    · have HR : Hid (rightZ s n = false) := Lib.hid (by unfold rightZ; simp [h0])
      rw [HR.out]
      clear HR
      rcases h4 with h4 | h4
      · go_enter Try.func23, Try.ntmps23
        go_wp2
        go_ret
        exact ⟨rfl, Below.refl _ _⟩
      · go_enter Try.func23, Try.ntmps23
        go_wp2
        go_ret
        exact ⟨rfl, Below.refl _ _⟩
  · have HR : Hid (rightZ s n = false) := Lib.hid (by unfold rightZ; simp at h4; simp [h4])
    rw [HR.out]
    clear HR
    obtain ⟨ha, hb⟩ := not_or.1 h4
    clear h4
    go_enter Try.func23, Try.ntmps23
    go_wp2
    go_ret
    exact ⟨rfl, Below.refl _ _⟩

/-- what is kept of the first bytes is the first bytes of what is kept -/
theorem keepL_take (l : List UInt8) (k n : Nat) : keepL (l.take k) n = (keepL l n).take k := by
  unfold keepL
  apply List.ext_getElem?
  intro i
  by_cases h : i < k
  · rw [List.getElem?_take_of_lt h, List.getElem?_mapIdx, List.getElem?_mapIdx, List.getElem?_take_of_lt h]
  · rw [List.getElem?_eq_none (by simp; omega), List.getElem?_eq_none (by simp; omega)]

/-- the first bytes of an address, as many as have the bits -/
def cutL (l : List UInt8) (n : Int) : List UInt8 := (keepL l n.toNat).take (leastN n)

theorem head_list (s : ByteArray) (k : Nat) : (s.extract 0 k).data.toList = s.data.toList.take k := by simp

theorem cut_less (s : ByteArray) (n : Int) : keepL (s.extract 0 (leastN n)).data.toList n.toNat = cutL s.data.toList n := by
  rw [head_list, keepL_take]; rfl

theorem cut_more (s : ByteArray) (n : Int) (h : s.size < leastN n) : s = ⟨(cutL s.data.toList n).toArray⟩ := by
  have e : cutL s.data.toList n = s.data.toList := by
    unfold cutL
    rw [List.take_of_length_le (by rw [keepL_length, len_list]; omega)]
    exact keepL_all _ _ (by rw [len_list]; unfold leastN at h; omega)
  rw [e]

/-- bytes, and noughts behind them up to so many -/
def fillL (l : List UInt8) (m : Nat) : List UInt8 := l ++ List.replicate (m - l.length) 0

theorem fillL_length (l : List UInt8) (m : Nat) (h : l.length ≤ m) : (fillL l m).length = m := by simp [fillL]; omega

theorem fill_step (l : List UInt8) (j : Nat) : fillL l (l.length + j) ++ [0] = fillL l (l.length + (j + 1)) := by
  unfold fillL
  rw [List.append_assoc]
  congr 1
  rw [show l.length + (j + 1) - l.length = (l.length + j - l.length) + 1 by omega, List.replicate_succ']

/-- how many bytes are alike -/
def leadN (a b : ByteArray) : Nat := alikeN a.data.toList b.data.toList / 8

end Go.Proofs.Ythfdcmijciclkaa.Pre
