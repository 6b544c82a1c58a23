/-
  Contracts of the octet's functions and of the document's own: what each answers of any numbers and any text, and that nothing that was there is changed.
  The octet's calls that make bytes: Zeros and Put, and the document's own.
-/
import Derived.Test.YteecialdkfaejaaDoorRows
import Derived.WalkKit
import Derived.ProofKit
import Derived.OpenShut
import Derived.ShutString
import Derived.Below
import Derived.Lib.Hide
import Derived.WalkLawsBesides
import Derived.Outline
import Derived.RegionTactic
import Derived.Deep.RegionWith
import Derived.StillTailTactics
import Derived.Deep.RegionHeld3
import Derived.IntWalk
import Derived.LoopTactic
import Derived.Laws.IdiomStrings
import Derived.OwnWalk
namespace Go.Proofs.YteecialdkfaejaaDoor.Oct
open Go.ChangeShapes Go.WideShapes Go.ChangeAt Go.RowKit
set_option linter.unusedVariables false
set_option maxRecDepth 100000

theorem bool_eq {a b : Bool} (h : a = b) : Ending.returned (.bool a) = .returned (.bool b) := by rw [h]

/-- the powers of 256 -/
def pw (k : Nat) : Nat := 256 ^ k
theorem pw_succ (k : Nat) : pw (k + 1) = pw k * 256 := by unfold pw; rw [Nat.pow_succ]
theorem pw_zero : pw 0 = 1 := rfl
theorem pw_pos (k : Nat) : 0 < pw k := by unfold pw; exact Nat.pow_pos (by decide)
theorem pw_le (k : Nat) (h : k ≤ 7) : pw k ≤ 72057594037927936 := by
  unfold pw; exact Nat.le_trans (Nat.pow_le_pow_right (by decide) h) (by decide)

/-- does n go into k bytes? -/
def fitsB (n k : Int) : Bool := decide (1 ≤ k) && decide (k ≤ 7) && decide (0 ≤ n) && decide (n < (pw k.toNat : Nat))

theorem fitsB_iff (n k : Int) : fitsB n k = true ↔ 1 ≤ k ∧ k ≤ 7 ∧ 0 ≤ n ∧ n < (pw k.toNat : Nat) := by
  unfold fitsB; simp [and_assoc]

/-- the bytes of n, the highest first -/
def be (n : Nat) : Nat → List UInt8
  | 0 => []
  | k + 1 => UInt8.ofNat (n / pw k) :: be n k

theorem be_length (n k : Nat) : (be n k).length = k := by
  induction k with
  | zero => rfl
  | succ k ih => simp [be, ih]

set_option maxHeartbeats 400000 in
theorem fits_any (n k : Int) (w : World) :
    Calls Tryd.prog 48 #[.int .i64 n, .int .i64 k] w fun e w' => e = .returned (.bool (fitsB n k)) ∧ w = w' := by
  by_cases h1 : k < 1
  · go_enter Tryd.func48, Tryd.ntmps48
    go_wp2
    go_ret
    exact ⟨bool_eq (by unfold fitsB; simp; omega), rfl⟩
  · by_cases h2 : 7 < k
    · go_enter Tryd.func48, Tryd.ntmps48
      go_wp2
      go_ret
      exact ⟨bool_eq (by unfold fitsB; simp; omega), rfl⟩
    · by_cases h3 : 0 ≤ n
      · have hk : k = 1 ∨ k = 2 ∨ k = 3 ∨ k = 4 ∨ k = 5 ∨ k = 6 ∨ k = 7 := by omega
        clear h1 h2
        rcases hk with rfl | rfl | rfl | rfl | rfl | rfl | rfl
        all_goals
          go_enter Tryd.func48, Tryd.ntmps48
          go_wp2
          go_ret
          exact ⟨bool_eq (by rw [Bool.eq_iff_iff, fitsB_iff]; simp [pw]; omega), rfl⟩
      · have hk : k = 1 ∨ k = 2 ∨ k = 3 ∨ k = 4 ∨ k = 5 ∨ k = 6 ∨ k = 7 := by omega
        go_enter Tryd.func48, Tryd.ntmps48
        go_wp2
        go_ret
        exact ⟨bool_eq (by unfold fitsB; simp; omega), rfl⟩

def zeroB (l : List UInt8) : Bool := l.all (· == 0)

theorem take_snoc (s : ByteArray) (k : Nat) (h : k < s.size) : s.data.toList.take (k + 1) = s.data.toList.take k ++ [s[k]] := by
  rw [List.take_succ_eq_append_getElem (by simpa using h)]; rfl

theorem zeroB_snoc (l : List UInt8) (c : UInt8) : zeroB (l ++ [c]) = (zeroB l && c == 0) := by
  unfold zeroB; simp [List.all_append]

theorem zeroB_not (s : ByteArray) (k : Nat) (h : k < s.size) (h0 : ¬ s[k].toNat = 0) : zeroB s.data.toList = false := by
  unfold zeroB
  rw [List.all_eq_false]
  refine ⟨s[k], ?_, ?_⟩
  · have : s[k] = s.data[k]'(by simpa using h) := rfl
    rw [this]; simp
  · intro e
    have : s[k] = 0 := by simpa using e
    rw [this] at h0
    exact h0 rfl

end Go.Proofs.YteecialdkfaejaaDoor.Oct
namespace Go.Proofs.YteecialdkfaejaaDoor.Oct
open Go.ChangeShapes Go.WideShapes Go.ChangeAt Go.RowKit
set_option linter.unusedVariables false
set_option maxRecDepth 100000

theorem info5 : (Tryd.prog.info? 5).map (fun i => (i.zero, i.size, i.bytes)) = some (some (.int .u8 0), 1, 1) := by kernel_rfl

/-- bytes, as the cells of a row -/
def cellsL (l : List UInt8) : List Value := l.map fun b => Value.int .u8 b.toNat

theorem cellsL_length (l : List UInt8) : (cellsL l).length = l.length := by simp [cellsL]

theorem conv_row (w : World) (g c : Nat) (base : Nat) (l : List UInt8) (n : Nat) (hn : l.length = n) (h : w.ownsRow base 5 1 (.slice (some ⟨g, 0, none⟩) n c) n (cellsL l)) :
    (convert 42 9 (.slice (some ⟨g, 0, none⟩) n c)).run Tryd.prog w = .ok (.string ⟨l.toArray⟩) w := by
  subst hn
  refine run_convert_bytes_back w 42 9 5 ⟨g, 0, none⟩ c l Tryd.underlying42 Tryd.underlying5 Tryd.underlying9 fun j hj => ?_
  have := h.cellAt j (by omega)
  simp [Addr.add_lit]
  rw [this]
  simp [cellsL, hj]

theorem ret_string {a b : ByteArray} (h : a = b) : Ending.returned (.string a) = .returned (.string b) := by rw [h]

set_option maxHeartbeats 400000 in
theorem zeros_mid (n : Nat) (w : World) (hn : n ≤ 1048576) :
    Calls Tryd.prog 93 #[.int .i64 n] w fun e w' => e = .returned (.string ⟨(List.replicate n (0 : UInt8)).toArray⟩) ∧ Below w.heap.size w w' := by
  obtain ⟨i0, hi, hz0, hz1, hz2⟩ := info_parts info5
  go_enter Tryd.func93, Tryd.ntmps93
  go_wp2_with (at_make; refine wpList_make_full _ rfl _ _ 42 rfl w.heap.size 5 i0 (.int .u8 0) 1 Tryd.underlying42 hi hz0 hz1 _ _ _ _ n rfl rfl rfl rfl (by rw [hz2]; omega) (by unfold maxLen; omega) (by simp) ?_)
  intro w1 hown hgrow
  have hc := conv_row w1 w.heap.size n w.heap.size (List.replicate n 0) n (by simp) (by
    have e : cellsL (List.replicate n (0 : UInt8)) = (madeCells #[Value.int .u8 0] n).toList := by
      rw [toList_madeCells_one]; simp [cellsL]
    rw [e]; exact hown)
  clear hi hz0 hz1 hz2 hown
  have HG := Lib.hid hgrow
  clear hgrow
  go_wp2
  go_ret
  exact ⟨rfl, (Below.refl _ _).grown HG.out (Nat.le_refl _) (fun k hk => by cases hk)⟩

theorem zeros_none (n : Int) (w : World) (hn : n < 0) :
    Calls Tryd.prog 93 #[.int .i64 n] w fun e w' => e = .returned (.string ⟨#[]⟩) ∧ Below w.heap.size w w' := by
  go_enter Tryd.func93, Tryd.ntmps93
  go_wp2
  go_ret
  exact ⟨rfl, Below.refl _ _⟩

/-- n without its last j bytes -/
def sh (n j : Nat) : Nat := n / pw j
theorem sh_zero (n : Nat) : sh n 0 = n := by unfold sh; rw [pw_zero]; simp
theorem sh_succ (n j : Nat) : sh n (j + 1) = sh n j / 256 := by unfold sh; rw [pw_succ, Nat.div_div_eq_div_mul]
theorem sh_le (n j : Nat) : sh n j ≤ n := by unfold sh; exact Nat.div_le_self _ _
theorem be_succ (n k : Nat) : be n (k + 1) = UInt8.ofNat (sh n k) :: be n k := rfl

/-- the row behind j rounds -/
def rowJ (n k j : Nat) : List Value := List.replicate (k - j) (.int .u8 0) ++ cellsL (be n j)

theorem rowJ_zero (n k : Nat) : rowJ n k 0 = (madeCells #[Value.int .u8 0] k).toList := by
  rw [toList_madeCells_one]; simp [rowJ, be, cellsL]

theorem rowJ_full (n k : Nat) : rowJ n k k = cellsL (be n k) := by simp [rowJ]

theorem set_mid {α : Type} (v x : α) (r : List α) (m : Nat) : (List.replicate m v ++ v :: r).set m x = List.replicate m v ++ x :: r := by
  induction m with
  | zero => rfl
  | succ m ih => simp [List.replicate_succ, ih]

theorem ofNat_cell (q : Nat) : Value.int .u8 ((q : Int) % 256) = Value.int .u8 ((UInt8.ofNat q).toNat : Int) := by
  congr 1

theorem rowJ_set (n k j : Nat) (h : j < k) : (rowJ n k j).set (k - 1 - j) (.int .u8 ((sh n j : Int) % 256)) = rowJ n k (j + 1) := by
  obtain ⟨m, rfl⟩ : ∃ m, k = j + 1 + m := ⟨k - (j + 1), by omega⟩
  unfold rowJ
  rw [show j + 1 + m - j = m + 1 from by omega, show j + 1 + m - 1 - j = m from by omega, show j + 1 + m - (j + 1) = m from by omega]
  rw [List.replicate_succ', List.append_assoc, be_succ, ofNat_cell]
  exact set_mid _ _ _ _

theorem tup_eq {a b : ByteArray} {p q : Bool} (h : a = b) (h' : p = q) : Ending.returned (.tuple #[.string a, .bool p]) = .returned (.tuple #[.string b, .bool q]) := by rw [h, h']

theorem cat_cons (b : UInt8) (l : List UInt8) : (ByteArray.mk #[b]) ++ (ByteArray.mk l.toArray) = ByteArray.mk (b :: l).toArray := by
  apply ByteArray.ext
  simp [ByteArray.data_append]

theorem conv_one (w : World) (q : Nat) :
    (convert 42 9 (.slice (some ⟨w.heap.size, 0, none⟩) 1 1)).run Tryd.prog (w.alloc (.cells #[.int .u8 ((q : Int) % 256)] 5)) = .ok (.string ⟨#[UInt8.ofNat q]⟩) (w.alloc (.cells #[.int .u8 ((q : Int) % 256)] 5)) := by
  have h := World.ownsRow_lit (base := w.heap.size) (e := 5) (size := 1) w #[.int .u8 ((q : Int) % 256)] 1 (Nat.le_refl _) (by unfold maxLen; omega) rfl
  rw [ofNat_cell] at h ⊢
  exact conv_row _ _ 1 _ [UInt8.ofNat q] 1 rfl h

end Go.Proofs.YteecialdkfaejaaDoor.Oct
