/-
  The number that bytes make: both functions that reckon it, and the cursor's calls that take text.
  Contracts of the octet's functions and of the document's own: what each answers of any numbers and any text, and that nothing that was there is changed.
  The octet's calls that make bytes: Zeros and Put, and the document's own.
  Numbers and their bytes, for the layers of AODV: the document's Number and Of, what a number comes to, there and back. No conditions, but where they are said.
  What the bytes of TLVs are, which TLVs bytes are, and where they break off; a datagram's head: definitions on values alone, and facts on them. No conditions.
  What a message is, field by field, its lists beside it, and what it is for two to be the same: definitions and facts on values alone.
  The lists of two messages, the program's comparison of them (slices.Equal) and the document's: whether they are the same. Condition: lists of at most 2^20 elements.
  A message in a variable of its own: its block holds the message's cells; loaded and stored whole, or field by field.
  Whether two messages are the same: the program's answer and the document's. Condition: lists of at most 2^20 elements.
  A region that draws its order, walked in the text's order: what reads is taken first, in whatever world that meets one condition.
  Whether two messages are the same: the program's answer. Condition: lists of at most 2^20 elements.
-/
import Derived.IntWalk
import Derived.LoopTactic
import Derived.Test.YtfegdblaohhdoaaGreatDoorRows
import Derived.WalkKit
import Derived.ProofKit
import Derived.OpenShut
import Derived.ShutString
import Derived.Below
import Derived.Lib.Hide
import Derived.WalkLawsBesides
import Derived.Outline
import Derived.RegionTactic
import Derived.Deep.RegionWith
import Derived.StillTailTactics
import Derived.Deep.RegionHeld3
import Derived.Laws.IdiomStrings
import Derived.OwnWalk
import Derived.Deep.QuietTactic
import Derived.BigQuiet
import Derived.Laws.StructEq
import Derived.Laws.Cells
import Derived.Laws.Rows
import Derived.Laws.Tables
import Derived.Deep.DeepCutAuto
import Derived.Deep.Cut
namespace Go.Proofs.YtfegdblaohhdoaaGreatDoor.Cur
open Go.ChangeShapes Go.WideShapes Go.ChangeAt Go.RowKit
set_option linter.unusedVariables false
set_option maxRecDepth 100000

def numL (l : List UInt8) : Nat := l.foldl (fun n c => n * 256 + c.toNat) 0

theorem numL_snoc (l : List UInt8) (c : UInt8) : numL (l ++ [c]) = numL l * 256 + c.toNat := by
  unfold numL; rw [List.foldl_append]; rfl

theorem numL_lt (l : List UInt8) : numL l < 256 ^ l.length := by
  suffices h : ∀ (m : Nat) (l : List UInt8), l.length = m → numL l < 256 ^ m from h _ l rfl
  intro m
  induction m with
  | zero => intro l h; have := List.length_eq_zero_iff.1 h; subst this; decide
  | succ m ih =>
    intro l h
    have hl : l ≠ [] := by intro e; subst e; simp at h
    have e := List.dropLast_concat_getLast hl
    rw [← e, numL_snoc]
    have := ih l.dropLast (by simp; omega)
    have hc := (l.getLast hl).toNat_lt
    rw [Nat.pow_succ]
    omega

theorem take_snoc (s : ByteArray) (k : Nat) (h : k < s.size) : s.data.toList.take (k + 1) = s.data.toList.take k ++ [s[k]] := by
  rw [List.take_succ_eq_append_getElem (by simpa using h)]; rfl

theorem int_eq {k : IntKind} {a b : Int} (h : a = b) : Ending.returned (.int k a) = .returned (.int k b) := by rw [h]

theorem num_lt6 (s : ByteArray) (k : Nat) (h : k ≤ 6) (hk : k ≤ s.size) : numL (s.data.toList.take k) < 281474976710656 := by
  have := numL_lt (s.data.toList.take k)
  refine Nat.lt_of_lt_of_le this ?_
  have e : (s.data.toList.take k).length ≤ 6 := by simp; omega
  exact Nat.le_trans (Nat.pow_le_pow_right (by decide) e) (by decide)

end Go.Proofs.YtfegdblaohhdoaaGreatDoor.Cur
namespace Go.Proofs.YtfegdblaohhdoaaGreatDoor.Oct
open Go.ChangeShapes Go.WideShapes Go.ChangeAt Go.RowKit
set_option linter.unusedVariables false
set_option maxRecDepth 100000

theorem bool_eq {a b : Bool} (h : a = b) : Ending.returned (.bool a) = .returned (.bool b) := by rw [h]

/-- the powers of 256 -/
def pw (k : Nat) : Nat := 256 ^ k
theorem pw_succ (k : Nat) : pw (k + 1) = pw k * 256 := by unfold pw; rw [Nat.pow_succ]
theorem pw_zero : pw 0 = 1 := rfl
theorem pw_le (k : Nat) (h : k ≤ 7) : pw k ≤ 72057594037927936 := by
  unfold pw; exact Nat.le_trans (Nat.pow_le_pow_right (by decide) h) (by decide)

/-- does n go into k bytes? -/
def fitsB (n k : Int) : Bool := decide (1 ≤ k) && decide (k ≤ 7) && decide (0 ≤ n) && decide (n < (pw k.toNat : Nat))

theorem fitsB_iff (n k : Int) : fitsB n k = true ↔ 1 ≤ k ∧ k ≤ 7 ∧ 0 ≤ n ∧ n < (pw k.toNat : Nat) := by
  unfold fitsB; simp [and_assoc]

/-- the bytes of n, the highest first -/
def be (n : Nat) : Nat → List UInt8
  | 0 => []
  | k + 1 => UInt8.ofNat (n / pw k) :: be n k

theorem be_length (n k : Nat) : (be n k).length = k := by
  induction k with
  | zero => rfl
  | succ k ih => simp [be, ih]

set_option maxHeartbeats 400000 in
theorem fits_any (n k : Int) (w : World) :
    Calls Tryz.prog 32 #[.int .i64 n, .int .i64 k] w fun e w' => e = .returned (.bool (fitsB n k)) ∧ w = w' := by
  by_cases h1 : k < 1
  · go_enter Tryz.func32, Tryz.ntmps32
    go_wp2
    go_ret
    exact ⟨bool_eq (by unfold fitsB; simp; omega), rfl⟩
  · by_cases h2 : 7 < k
    · go_enter Tryz.func32, Tryz.ntmps32
      go_wp2
      go_ret
      exact ⟨bool_eq (by unfold fitsB; simp; omega), rfl⟩
    · by_cases h3 : 0 ≤ n
      · have hk : k = 1 ∨ k = 2 ∨ k = 3 ∨ k = 4 ∨ k = 5 ∨ k = 6 ∨ k = 7 := by omega
        clear h1 h2
        rcases hk with rfl | rfl | rfl | rfl | rfl | rfl | rfl
        all_goals
          go_enter Tryz.func32, Tryz.ntmps32
          go_wp2
          go_ret
          exact ⟨bool_eq (by rw [Bool.eq_iff_iff, fitsB_iff]; simp [pw]; omega), rfl⟩
      · have hk : k = 1 ∨ k = 2 ∨ k = 3 ∨ k = 4 ∨ k = 5 ∨ k = 6 ∨ k = 7 := by omega
        go_enter Tryz.func32, Tryz.ntmps32
        go_wp2
        go_ret
        exact ⟨bool_eq (by unfold fitsB; simp; omega), rfl⟩

end Go.Proofs.YtfegdblaohhdoaaGreatDoor.Oct
namespace Go.Proofs.YtfegdblaohhdoaaGreatDoor.Oct
open Go.ChangeShapes Go.WideShapes Go.ChangeAt Go.RowKit
set_option linter.unusedVariables false
set_option maxRecDepth 100000

theorem info5 : (Tryz.prog.info? 5).map (fun i => (i.zero, i.size, i.bytes)) = some (some (.int .u8 0), 1, 1) := by kernel_rfl

/-- bytes, as the cells of a row -/
def cellsL (l : List UInt8) : List Value := l.map fun b => Value.int .u8 b.toNat

theorem conv_row (w : World) (g c : Nat) (base : Nat) (l : List UInt8) (n : Nat) (hn : l.length = n) (h : w.ownsRow base 5 1 (.slice (some ⟨g, 0, none⟩) n c) n (cellsL l)) :
    (convert 71 9 (.slice (some ⟨g, 0, none⟩) n c)).run Tryz.prog w = .ok (.string ⟨l.toArray⟩) w := by
  subst hn
  refine run_convert_bytes_back w 71 9 5 ⟨g, 0, none⟩ c l Tryz.underlying71 Tryz.underlying5 Tryz.underlying9 fun j hj => ?_
  have := h.cellAt j (by omega)
  simp [Addr.add_lit]
  rw [this]
  simp [cellsL, hj]

set_option maxHeartbeats 400000 in
theorem zeros_mid (n : Nat) (w : World) (hn : n ≤ 1048576) :
    Calls Tryz.prog 131 #[.int .i64 n] w fun e w' => e = .returned (.string ⟨(List.replicate n (0 : UInt8)).toArray⟩) ∧ Below w.heap.size w w' := by
  obtain ⟨i0, hi, hz0, hz1, hz2⟩ := info_parts info5
  go_enter Tryz.func131, Tryz.ntmps131
  go_wp2_with (at_make; refine wpList_make_full _ rfl _ _ 71 rfl w.heap.size 5 i0 (.int .u8 0) 1 Tryz.underlying71 hi hz0 hz1 _ _ _ _ n rfl rfl rfl rfl (by rw [hz2]; omega) (by unfold maxLen; omega) (by simp) ?_)
  intro w1 hown hgrow
  have hc := conv_row w1 w.heap.size n w.heap.size (List.replicate n 0) n (by simp) (by
    have e : cellsL (List.replicate n (0 : UInt8)) = (madeCells #[Value.int .u8 0] n).toList := by
      rw [toList_madeCells_one]; simp [cellsL]
    rw [e]; exact hown)
  clear hi hz0 hz1 hz2 hown
  have HG := Lib.hid hgrow
  clear hgrow
  go_wp2
  go_ret
  exact ⟨rfl, (Below.refl _ _).grown HG.out (Nat.le_refl _) (fun k hk => by cases hk)⟩

/-- n without its last j bytes -/
def sh (n j : Nat) : Nat := n / pw j
theorem sh_zero (n : Nat) : sh n 0 = n := by unfold sh; rw [pw_zero]; simp
theorem sh_succ (n j : Nat) : sh n (j + 1) = sh n j / 256 := by unfold sh; rw [pw_succ, Nat.div_div_eq_div_mul]
theorem sh_le (n j : Nat) : sh n j ≤ n := by unfold sh; exact Nat.div_le_self _ _
theorem be_succ (n k : Nat) : be n (k + 1) = UInt8.ofNat (sh n k) :: be n k := rfl

/-- the row behind j rounds -/
def rowJ (n k j : Nat) : List Value := List.replicate (k - j) (.int .u8 0) ++ cellsL (be n j)

theorem rowJ_zero (n k : Nat) : rowJ n k 0 = (madeCells #[Value.int .u8 0] k).toList := by
  rw [toList_madeCells_one]; simp [rowJ, be, cellsL]

theorem rowJ_full (n k : Nat) : rowJ n k k = cellsL (be n k) := by simp [rowJ]

theorem set_mid {α : Type} (v x : α) (r : List α) (m : Nat) : (List.replicate m v ++ v :: r).set m x = List.replicate m v ++ x :: r := by
  induction m with
  | zero => rfl
  | succ m ih => simp [List.replicate_succ, ih]

theorem ofNat_cell (q : Nat) : Value.int .u8 ((q : Int) % 256) = Value.int .u8 ((UInt8.ofNat q).toNat : Int) := by
  congr 1

theorem rowJ_set (n k j : Nat) (h : j < k) : (rowJ n k j).set (k - 1 - j) (.int .u8 ((sh n j : Int) % 256)) = rowJ n k (j + 1) := by
  obtain ⟨m, rfl⟩ : ∃ m, k = j + 1 + m := ⟨k - (j + 1), by omega⟩
  unfold rowJ
  rw [show j + 1 + m - j = m + 1 from by omega, show j + 1 + m - 1 - j = m from by omega, show j + 1 + m - (j + 1) = m from by omega]
  rw [List.replicate_succ', List.append_assoc, be_succ, ofNat_cell]
  exact set_mid _ _ _ _

set_option maxHeartbeats 800000 in
theorem put_yes (n k : Nat) (w : World) (h1 : 1 ≤ k) (h7 : k ≤ 7) (hn : n < pw k) :
    Calls Tryz.prog 119 #[.int .i64 n, .int .i64 k] w fun e w' => e = .returned (.tuple #[.string ⟨(be n k).toArray⟩, .bool true]) ∧ Below w.heap.size w w' := by
  obtain ⟨i0, hi, hz0, hz1, hz2⟩ := info_parts info5
  have hf : fitsB n k = true := by rw [fitsB_iff]; simp; omega
  have hn' : n ≤ 72057594037927936 := by have := pw_le k h7; omega
  clear hn
  go_enter Tryz.func119, Tryz.ntmps119
  go_wp2_with (first
    | (go_at_call 32; refine (fits_any _ _ _).mono ?_; rintro e w' ⟨rfl, rfl⟩)
    | (at_make; refine wpList_make_full _ rfl _ _ 71 rfl w.heap.size 5 i0 (.int .u8 0) 1 Tryz.underlying71 hi hz0 hz1 _ _ _ _ k rfl rfl rfl rfl (by rw [hz2]; omega) (by unfold maxLen; omega) (by simp) ?_))
  intro w1 hown hgrow
  have HB : Hid (Below w.heap.size w w1) := Lib.hid ((Below.refl _ _).grown hgrow (Nat.le_refl _) (fun k hk => by cases hk))
  have HO : Hid (w1.ownsRow w.heap.size 5 1 (.slice (some ⟨w.heap.size, 0, none⟩) k k) k (rowJ n k 0)) := by rw [rowJ_zero]; exact Lib.hid hown
  clear hown hgrow hi hz0 hz1 hz2 hf
  go_wp2
  go_loopw [0, 7] (fun q i wr => ∃ j : Nat, j ≤ k ∧ q = .int .i64 (sh n j : Nat) ∧ i = .int .i64 ((k : Int) - 1 - j) ∧ Hid (wr.ownsRow w.heap.size 5 1 (.slice (some ⟨w.heap.size, 0, none⟩) k k) k (rowJ n k j)) ∧ Hid (Below w.heap.size w wr))
    (fun _ i _ => (intOf i + 1).toNat)
  case atStart => exact ⟨0, Nat.zero_le _, by rw [sh_zero], by simp, HO, HB⟩
  case round =>
    obtain ⟨j, hj, rfl, rfl, HO1, HB1⟩ := hrel
    clear HO HB
    by_cases hlt : j < k
    · have hq := sh_le n j
      have hfr := (HO1.out).frozenAt (k - 1 - j)
      obtain ⟨u, hcl⟩ : ∃ u, wr.cell? ⟨w.heap.size, k - 1 - j, none⟩ = some u := by
        rw [HO1.out.cellAt _ (by omega)]
        exact ⟨_, List.getElem?_eq_getElem (by have := HO1.out.1; omega)⟩
      go_wp2
      go_roundw
      case rel =>
        refine ⟨j + 1, by omega, ?_, ?_, Lib.hid ?_, Lib.hid ?_⟩
        · rw [sh_succ]; go_num
        · go_num
        · have := (HO1.out.stored (k - 1 - j) (.int .u8 ((sh n j : Int) % 256))).1
          rw [rowJ_set n k j hlt] at this
          exact this
        · exact HB1.out.setCell (Nat.le_refl _) _
      case measure => simp [intOf]; omega
    · obtain rfl : j = k := by omega
      have hc := conv_row wr w.heap.size j w.heap.size (be n j) j (be_length n j) (by rw [← rowJ_full]; exact HO1.out)
      go_wp2
      go_ret2
      exact ⟨rfl, HB1.out⟩

theorem put_no (n k : Int) (w : World) (hf : fitsB n k = false) :
    Calls Tryz.prog 119 #[.int .i64 n, .int .i64 k] w fun e w' => e = .returned (.tuple #[.string ⟨#[]⟩, .bool false]) ∧ Below w.heap.size w w' := by
  go_enter Tryz.func119, Tryz.ntmps119
  go_wp2_with (go_at_call 32; refine (fits_any _ _ _).mono ?_; rintro e w' ⟨rfl, rfl⟩)
  go_ret2
  exact ⟨rfl, Below.refl _ _⟩

end Go.Proofs.YtfegdblaohhdoaaGreatDoor.Oct
namespace Go.Proofs.YtfegdblaohhdoaaGreatDoor.Nu
open Go.ChangeShapes Go.WideShapes Go.ChangeAt Go.RowKit
open Go.Proofs.YtfegdblaohhdoaaGreatDoor.Cur
open Go.Proofs.YtfegdblaohhdoaaGreatDoor.Oct
set_option linter.unusedVariables false
set_option maxRecDepth 100000
set_option maxRecDepth 100000

theorem radd (s : ByteArray) (k : Nat) (h : k ≤ 6) (hk : k < s.size) :
    ((numL (s.data.toList.take k) : Nat) : Int) * 256 + (s[k].toNat : Nat) = ((numL (s.data.toList.take (k + 1)) : Nat) : Int) := by
  rw [Cur.take_snoc s k hk, numL_snoc]
  omega

set_option maxHeartbeats 800000 in
theorem rnumber (s : ByteArray) (w : World) (hs : s.size ≤ 7) :
    Calls Tryz.prog 72 #[.string s] w fun e w' => e = .returned (.int .i64 (numL s.data.toList)) ∧ w = w' := by
  go_enter Tryz.func72, Tryz.ntmps72
  go_wp2
  go_loop [3, 4] (fun n i => ∃ k : Nat, k ≤ s.size ∧ i = .int .i64 k ∧ n = .int .i64 (numL (s.data.toList.take k))) (fun _ i => s.size - (intOf i).toNat)
  case atStart => exact ⟨0, Nat.zero_le _, rfl, rfl⟩
  case round =>
    obtain ⟨k, hk, rfl, rfl⟩ := hrel
    by_cases hlt : k < s.size
    · have hr := Lib.hid (radd s k (by omega) hlt)
      have hb := num_lt6 s k (by omega) (by omega)
      have hc := s[k].toNat_lt
      have h7 : k < 7 := by omega
      go_wp2
      go_round
      case rel => exact ⟨k + 1, by omega, by go_num, congrArg (Value.int IntKind.i64) (by rw [← hr.out])⟩
      case measure => simp [intOf]; omega
    · go_wp2
      go_ret
      exact ⟨int_eq (by rw [List.take_of_length_le (by simp; omega)]), rfl⟩

theorem ext_list (s : ByteArray) (a b : Nat) : (s.extract a b).data.toList = (s.data.toList.drop a).take (b - a) := by
  simp [ByteArray.data_extract, List.extract_eq_take_drop]

theorem rnum_ext (s : ByteArray) (a b : Nat) (w : World) (h : b - a ≤ 7) :
    Calls Tryz.prog 72 #[.string (s.extract a b)] w fun e w' => e = .returned (.int .i64 (numL ((s.data.toList.drop a).take (b - a)))) ∧ w' = w := by
  rw [← ext_list]
  exact (rnumber _ _ (by simp; omega)).mono fun e w' ⟨h1, h2⟩ => ⟨h1, h2.symm⟩

/-- What a number lays: its bytes, if it fits. -/
def layN (v : Int) (n : Nat) : List UInt8 := if fitsB v n then be v.toNat n else []

theorem layN_len (v : Int) (n : Nat) : (layN v n).length ≤ n := by unfold layN; split <;> simp [be_length]

/-- What a number comes to, by the octet's Put: its bytes, or nothing. -/
theorem oput_any (v : Int) (n : Nat) (ni : Int) (hni : ni = n) (h1 : 1 ≤ n) (h7 : n ≤ 7) (w : World) :
    Calls Tryz.prog 119 #[.int .i64 v, .int .i64 ni] w fun e w' => e = .returned (.tuple #[.string ⟨(layN v n).toArray⟩, .bool (fitsB v n)]) ∧ Below w.heap.size w w' := by
  subst hni
  by_cases hf : fitsB v n = true
  · obtain ⟨_, _, hv0, hv1⟩ := (fitsB_iff v n).1 hf
    have hl : layN v n = be v.toNat n := by unfold layN; rw [if_pos hf]
    rw [hl, hf]
    obtain ⟨v, rfl⟩ := Int.eq_ofNat_of_zero_le hv0
    exact put_yes v n w h1 h7 (by simpa using hv1)
  · have hf : fitsB v n = false := by simpa using hf
    have hl : layN v n = [] := by unfold layN; rw [hf]; rfl
    rw [hl, hf]
    exact put_no v n w hf

theorem numL_from (l : List UInt8) : ∀ n : Nat, l.foldl (fun n c => n * 256 + c.toNat) n = n * 256 ^ l.length + numL l := by
  induction l with
  | nil => intro n; simp [numL]
  | cons c l ih =>
    intro n
    unfold numL
    rw [List.foldl_cons, List.foldl_cons, ih, ih (0 * 256 + c.toNat), List.length_cons, Nat.pow_succ, Nat.add_mul, Nat.zero_mul, Nat.zero_add, Nat.mul_assoc, Nat.mul_comm 256]
    omega

theorem numL_cons (c : UInt8) (l : List UInt8) : numL (c :: l) = c.toNat * 256 ^ l.length + numL l := by
  unfold numL
  rw [List.foldl_cons, numL_from, Nat.zero_mul, Nat.zero_add]
  rfl

theorem numL_be (n : Nat) : ∀ k, numL (be n k) = n % pw k := by
  intro k
  induction k with
  | zero => rw [pw_zero, Nat.mod_one]; rfl
  | succ k ih =>
    rw [be, numL_cons, ih, be_length, pw_succ, Nat.mod_mul]
    show _ * pw k + _ = _
    have : (UInt8.ofNat (n / pw k)).toNat = n / pw k % 256 := by simp
    rw [this, Nat.mul_comm, Nat.add_comm]

theorem numL_inj : ∀ {a b : List UInt8}, a.length = b.length → numL a = numL b → a = b := by
  intro a
  induction a with
  | nil => intro b h _; cases b with
    | nil => rfl
    | cons _ _ => simp at h
  | cons c a ih =>
    intro b h e
    cases b with
    | nil => simp at h
    | cons d b =>
      have hl : a.length = b.length := by simpa using h
      rw [numL_cons, numL_cons, hl] at e
      have h1 := numL_lt a
      have h2 := numL_lt b
      rw [hl] at h1
      have hp : 0 < 256 ^ b.length := Nat.pow_pos (by decide)
      have hq := congrArg (· / 256 ^ b.length) e
      simp only [Nat.mul_comm _ (256 ^ b.length), Nat.mul_add_div hp, Nat.div_eq_of_lt h1, Nat.div_eq_of_lt h2, Nat.add_zero] at hq
      have hc : c = d := UInt8.toNat_inj.1 hq
      subst hc
      rw [ih hl (by omega)]

theorem be_numL (l : List UInt8) (k : Nat) (h : l.length = k) : be (numL l) k = l := by
  refine numL_inj (by rw [be_length, h]) ?_
  rw [numL_be, Nat.mod_eq_of_lt]
  have := numL_lt l
  rw [h] at this
  exact this

theorem layN_numL (l : List UInt8) (k : Nat) (h : l.length = k) (h1 : 1 ≤ k) (h7 : k ≤ 7) : fitsB (numL l) k = true ∧ layN (numL l) k = l := by
  have hf : fitsB (numL l) k = true := by
    have := numL_lt l
    rw [h] at this
    rw [fitsB_iff]
    refine ⟨by omega, by omega, by omega, ?_⟩
    simpa [pw] using (Int.ofNat_lt.2 this)
  refine ⟨hf, ?_⟩
  unfold layN
  rw [if_pos hf, Int.toNat_natCast, be_numL l k h]

theorem numL_layN (v : Int) (k : Nat) (hf : fitsB v k = true) : ((numL (layN v k) : Nat) : Int) = v ∧ (layN v k).length = k := by
  obtain ⟨_, _, h0, h1⟩ := (fitsB_iff v k).1 hf
  unfold layN
  rw [if_pos hf, numL_be, be_length]
  obtain ⟨n, rfl⟩ := Int.eq_ofNat_of_zero_le h0
  have : n < pw k := by simpa using h1
  rw [Int.toNat_natCast, Nat.mod_eq_of_lt this]
  exact ⟨rfl, rfl⟩

theorem text_eq {a b : ByteArray} (h : a.data.toList = b.data.toList) : a = b := ByteArray.ext (Array.toList_inj.1 h)

/-- A number that fits has as many bytes. -/
theorem lay_len {v : Int} {k : Nat} (hf : fitsB v k = true) : (layN v k).length = k := (numL_layN v k hf).2
theorem lay_num {v : Int} {k : Nat} (hf : fitsB v k = true) : ((numL (layN v k) : Nat) : Int) = v := (numL_layN v k hf).1
theorem num_fits (l : List UInt8) (k : Nat) (h : l.length = k) (h1 : 1 ≤ k) (h7 : k ≤ 7) : fitsB (numL l) k = true := (layN_numL l k h h1 h7).1
end Go.Proofs.YtfegdblaohhdoaaGreatDoor.Nu
namespace Go.Proofs.YtfegdblaohhdoaaGreatDoor.F1
open Go.ChangeShapes Go.WideShapes Go.ChangeAt Go.RowKit
open Go.Proofs.YtfegdblaohhdoaaGreatDoor.Cur (numL)
open Go.Proofs.YtfegdblaohhdoaaGreatDoor.Nu
set_option linter.unusedVariables false
set_option maxRecDepth 100000
set_option maxRecDepth 100000

/-- The i-th byte. -/
def bt (b : ByteArray) (i : Nat) : Int := ((b.data.toList.getD i 0).toNat : Int)
theorem bt_eq (b : ByteArray) (i : Nat) (h : i < b.size) : (b[i].toNat : Int) = bt b i := by
  unfold bt
  rw [List.getD_eq_getElem?_getD, List.getElem?_eq_getElem (by simpa using h)]
  rfl
theorem bt_nn (b : ByteArray) (i : Nat) : 0 ≤ bt b i := Int.natCast_nonneg _
theorem bt_lt (b : ByteArray) (i : Nat) : bt b i < 256 := by
  unfold bt
  have := UInt8.toNat_lt (b.data.toList.getD i 0)
  omega
theorem bt_at {s : ByteArray} {a b : List UInt8} {t : UInt8} {p : Nat} (h : s.data.toList = a ++ t :: b) (hp : a.length = p) : bt s p = (t.toNat : Int) := by
  subst hp
  unfold bt
  rw [h, List.getD_eq_getElem?_getD, List.getElem?_append_right (Nat.le_refl _), Nat.sub_self]
  rfl
theorem size_of {s : ByteArray} {t : List UInt8} (h : s.data.toList = t) : s.size = t.length := by rw [← h]; simp
theorem num_two (s : ByteArray) (p : Nat) (h : p + 1 < s.size) : ((numL ((s.data.toList.drop p).take 2) : Nat) : Int) = 256 * bt s p + bt s (p + 1) := by
  have hp : p < s.data.toList.length := by simp; omega
  have hq : p + 1 < s.data.toList.length := by simpa using h
  rw [← bt_eq s p (by omega), ← bt_eq s (p + 1) h, List.drop_eq_getElem_cons hp, List.drop_eq_getElem_cons hq]
  show (((0 * 256 + (s.data.toList[p]).toNat) * 256 + (s.data.toList[p + 1]).toNat : Nat) : Int) = _
  rw [Nat.zero_mul, Nat.zero_add]
  have e1 : s.data.toList[p] = s[p] := rfl
  have e2 : s.data.toList[p + 1] = s[p + 1] := rfl
  rw [e1, e2]
  push_cast
  omega

/-- A TLV: its data and its type; and with its place. -/
abbrev El := ByteArray × Int
abbrev T := Int × El
/-- A TLV's bytes. -/
def enc1 (x : El) : List UInt8 := if x.2 = 0 then [0] else UInt8.ofNat x.2.toNat :: UInt8.ofNat x.1.size :: x.1.data.toList
/-- The bytes of TLVs. -/
def encT (l : List El) : List UInt8 := l.flatMap enc1
def ok1 (x : El) : Prop := 0 ≤ x.2 ∧ x.2 ≤ 255 ∧ x.1.size ≤ 255 ∧ (x.2 = 0 → x.1 = ⟨#[]⟩)
def okT (l : List El) : Prop := ∀ x ∈ l, ok1 x
theorem okT_nil : okT [] := fun x hx => absurd hx (by simp)
theorem okT_snoc {l : List El} {x : El} (h : okT l) (hx : ok1 x) : okT (l ++ [x]) := fun y hy => by
  rcases List.mem_append.1 hy with h1 | h1
  · exact h y h1
  · rw [List.mem_singleton.1 h1]; exact hx
theorem okT_append {a b : List El} (h : okT a) (hb : okT b) : okT (a ++ b) := fun y hy => by
  rcases List.mem_append.1 hy with h1 | h1
  · exact h y h1
  · exact hb y h1
theorem okT_cons {l : List El} {x : El} (h : okT (x :: l)) : ok1 x ∧ okT l := ⟨h x (by simp), fun y hy => h y (by simp [hy])⟩
theorem encT_nil : encT [] = [] := rfl
theorem encT_cons (x : El) (l : List El) : encT (x :: l) = enc1 x ++ encT l := by simp [encT]
theorem encT_snoc (l : List El) (x : El) : encT (l ++ [x]) = encT l ++ enc1 x := by simp [encT]
theorem enc1_len (x : El) : (enc1 x).length = if x.2 = 0 then 1 else 2 + x.1.size := by
  unfold enc1
  split
  · rfl
  · simp; omega
theorem enc1_pos (x : El) : 1 ≤ (enc1 x).length := by rw [enc1_len]; split <;> omega
theorem len_le (l : List El) : l.length ≤ (encT l).length := by
  induction l with
  | nil => exact Nat.le_refl _
  | cons x l ih => rw [encT_cons, List.length_append, List.length_cons]; have := enc1_pos x; omega

/-- The TLV with which bytes begin, and what is behind it. -/
def cut1 : List UInt8 → Option (El × List UInt8)
  | [] => none
  | t :: r => if t.toNat = 0 then some ((⟨#[]⟩, 0), r) else
    match r with
    | [] => none
    | n :: r => if n.toNat ≤ r.length then some ((⟨(r.take n.toNat).toArray⟩, (t.toNat : Int)), r.drop n.toNat) else none
theorem cut1_zero (t : UInt8) (r : List UInt8) (h : t.toNat = 0) : cut1 (t :: r) = some ((⟨#[]⟩, 0), r) := by unfold cut1; simp [h]
theorem cut1_lone (t : UInt8) (h : ¬ t.toNat = 0) : cut1 [t] = none := by unfold cut1; simp [h]
theorem cut1_two (t n : UInt8) (r : List UInt8) (h : ¬ t.toNat = 0) : cut1 (t :: n :: r) = if n.toNat ≤ r.length then some ((⟨(r.take n.toNat).toArray⟩, (t.toNat : Int)), r.drop n.toNat) else none := by
  unfold cut1; simp only [h, if_false]
theorem cut1_some {r r' : List UInt8} {x : El} (h : cut1 r = some (x, r')) : ok1 x ∧ r = enc1 x ++ r' := by
  match r, h with
  | t :: r, h =>
    by_cases ht : t.toNat = 0
    · rw [cut1_zero t r ht] at h
      simp only [Option.some.injEq, Prod.mk.injEq] at h
      obtain ⟨rfl, rfl⟩ := h
      have : t = 0 := UInt8.toNat_inj.1 ht
      subst this
      exact ⟨⟨by simp, by simp, by show (0 : Nat) ≤ 255; omega, fun _ => rfl⟩, rfl⟩
    · match r, h with
      | [], h => rw [cut1_lone t ht] at h; cases h
      | n :: r, h =>
        rw [cut1_two t n r ht] at h
        by_cases hn : n.toNat ≤ r.length
        · rw [if_pos hn] at h
          simp only [Option.some.injEq, Prod.mk.injEq] at h
          obtain ⟨rfl, rfl⟩ := h
          have hs : (⟨(r.take n.toNat).toArray⟩ : ByteArray).size = n.toNat := by show (r.take n.toNat).toArray.size = _; rw [List.size_toArray, List.length_take]; omega
          have ht' := UInt8.toNat_lt t
          have hn' := UInt8.toNat_lt n
          refine ⟨⟨by simp only []; omega, by simp only []; omega, by simp only []; rw [hs]; omega, by simp only []; omega⟩, ?_⟩
          unfold enc1
          simp only [hs]
          rw [if_neg (by omega)]
          simp
        · rw [if_neg hn] at h; cases h
theorem cut1_enc {x : El} (h : ok1 x) (r : List UInt8) : cut1 (enc1 x ++ r) = some (x, r) := by
  obtain ⟨⟨d⟩, t⟩ := x
  obtain ⟨h0, h1, h2, h3⟩ := h
  change d.size ≤ 255 at h2
  simp only [] at h0 h1 h3
  unfold enc1
  by_cases ht : t = 0
  · subst ht
    rw [if_pos rfl, h3 rfl]
    rfl
  · rw [if_neg ht]
    have e1 : (UInt8.ofNat t.toNat).toNat = t.toNat := by rw [UInt8.toNat_ofNat']; omega
    have e2 : (UInt8.ofNat d.size).toNat = d.size := by rw [UInt8.toNat_ofNat']; omega
    show cut1 (UInt8.ofNat t.toNat :: UInt8.ofNat d.size :: (d.toList ++ r)) = _
    rw [cut1_two _ _ _ (by rw [e1]; omega), e2, if_pos (by simp), e1]
    have : ((t.toNat : Nat) : Int) = t := by omega
    rw [this, List.take_left' (by simp), List.drop_left' (by simp)]

/-- What stands where a TLV begins: one of the type 0; a type alone; one whose data aren't all there; one that is. -/
theorem step {s : ByteArray} {a r : List UInt8} {p : Nat} (h : s.data.toList = a ++ r) (hp : a.length = p) (hr : r ≠ []) : p < s.size ∧ s.size = p + r.length ∧
    ((bt s p = 0 ∧ ∃ r', cut1 r = some ((⟨#[]⟩, 0), r')) ∨ (¬ bt s p = 0 ∧ s.size < p + 2 ∧ cut1 r = none) ∨
     ∃ n : Nat, ¬ bt s p = 0 ∧ p + 2 ≤ s.size ∧ bt s (p + 1) = n ∧ n ≤ 255 ∧ ((s.size < p + 2 + n ∧ cut1 r = none) ∨ (p + 2 + n ≤ s.size ∧ ∃ x r', cut1 r = some (x, r') ∧ x.2 = bt s p ∧ x.1 = s.extract (p + 2) (p + 2 + n) ∧ x.1.size = n))) := by
  subst hp
  have hz : s.size = a.length + r.length := by rw [size_of h, List.length_append]
  match r, hr, h, hz with
  | t :: r, _, h, hz =>
    rw [List.length_cons] at hz
    refine ⟨by omega, hz, ?_⟩
    have hb := bt_at h rfl
    by_cases ht : t.toNat = 0
    · exact .inl ⟨by rw [hb, ht]; rfl, r, cut1_zero t r ht⟩
    have hb0 : ¬ bt s a.length = 0 := by rw [hb]; omega
    match r, h, hz with
    | [], h, hz => exact .inr (.inl ⟨hb0, by rw [hz]; simp, cut1_lone t ht⟩)
    | n :: r, h, hz =>
      rw [List.length_cons] at hz
      have hn' := UInt8.toNat_lt n
      have h' : s.data.toList = (a ++ [t]) ++ n :: r := by rw [h]; simp
      have hb1 : bt s (a.length + 1) = _ := bt_at h' (by simp)
      refine .inr (.inr ⟨n.toNat, hb0, by omega, hb1, by omega, ?_⟩)
      by_cases hn : n.toNat ≤ r.length
      · refine .inr ⟨by omega, _, _, by rw [cut1_two t n r ht, if_pos hn], hb.symm, ?_, ?_⟩
        · have h2 : s.data.toList = (a ++ [t, n]) ++ r := by rw [h]; simp
          refine text_eq ?_
          rw [ext_list, h2, show a.length + 2 = (a ++ [t, n]).length by simp, List.drop_left, Nat.add_sub_cancel_left]
        · show (r.take n.toNat).toArray.size = _
          rw [List.size_toArray, List.length_take]; omega
      · exact .inl ⟨by omega, by rw [cut1_two t n r ht, if_neg hn]⟩

theorem all_bytes : ∀ (n : Nat) (s : List UInt8), s.length ≤ n → ∃ l r, okT l ∧ s = encT l ++ r ∧ cut1 r = none
  | 0, s, h => ⟨[], s, okT_nil, rfl, by rw [List.length_eq_zero_iff.1 (Nat.le_zero.1 h)]; rfl⟩
  | n + 1, s, h => by
    cases hc : cut1 s with
    | none => exact ⟨[], s, okT_nil, rfl, hc⟩
    | some p =>
      obtain ⟨x, r'⟩ := p
      obtain ⟨ho, he⟩ := cut1_some hc
      have hl : r'.length ≤ n := by
        have := congrArg List.length he
        rw [List.length_append] at this
        have := enc1_pos x
        omega
      obtain ⟨l, r, h1, h2, h3⟩ := all_bytes n r' hl
      refine ⟨x :: l, r, fun y hy => ?_, by rw [he, encT_cons, h2, List.append_assoc], h3⟩
      rcases List.mem_cons.1 hy with rfl | hy
      · exact ho
      · exact h1 y hy
theorem enc_inj {r r' : List UInt8} (hr : cut1 r = none) (hr' : cut1 r' = none) : ∀ {l l' : List El}, okT l → okT l' → encT l ++ r = encT l' ++ r' → l = l' ∧ r = r'
  | [], [], _, _, h => ⟨rfl, by simpa [encT] using h⟩
  | [], x :: l', _, h', h => by
    rw [encT_nil, List.nil_append, encT_cons, List.append_assoc] at h
    rw [h, cut1_enc (okT_cons h').1] at hr
    cases hr
  | x :: l, [], h', _, h => by
    rw [encT_nil, List.nil_append, encT_cons, List.append_assoc] at h
    rw [← h, cut1_enc (okT_cons h').1] at hr'
    cases hr'
  | x :: l, y :: l', h1, h2, h => by
    rw [encT_cons, encT_cons, List.append_assoc, List.append_assoc] at h
    have e := congrArg cut1 h
    rw [cut1_enc (okT_cons h1).1, cut1_enc (okT_cons h2).1] at e
    simp only [Option.some.injEq, Prod.mk.injEq] at e
    obtain ⟨rfl, e⟩ := e
    obtain ⟨rfl, rfl⟩ := enc_inj hr hr' (okT_cons h1).2 (okT_cons h2).2 e
    exact ⟨rfl, rfl⟩

/-- TLVs, each with its place, the first at p. -/
def placed (p : Int) : List El → List T
  | [] => []
  | x :: l => (p, x) :: placed (p + ((enc1 x).length : Int)) l
theorem placed_len : ∀ (l : List El) (p : Int), (placed p l).length = l.length
  | [], _ => rfl
  | x :: l, p => by rw [placed, List.length_cons, List.length_cons, placed_len]
theorem placed_append : ∀ (a b : List El) (p : Int), placed p (a ++ b) = placed p a ++ placed (p + ((encT a).length : Int)) b
  | [], b, p => by simp [placed, encT]
  | x :: a, b, p => by
    rw [List.cons_append, placed, placed, placed_append, encT_cons, List.length_append, List.cons_append]
    congr 3
    push_cast
    omega
theorem placed_snoc (l : List El) (x : El) (p : Int) : placed p (l ++ [x]) = placed p l ++ [(p + ((encT l).length : Int), x)] := by
  rw [placed_append]; rfl

/-- The TLVs whose bytes these are, 0 and no error; or none, the place of the first that isn't all there, and the error. -/
def IsT (base : Int) (s : ByteArray) (o : List T × Int × Int) : Prop :=
  ∃ l r, okT l ∧ s.data.toList = encT l ++ r ∧ cut1 r = none ∧ o = if r = [] then (placed base l, 0, 0) else ([], base + ((encT l).length : Int), 2)
theorem isT_some (base : Int) (s : ByteArray) : ∃ o, IsT base s o := by
  obtain ⟨l, r, h1, h2, h3⟩ := all_bytes _ s.data.toList (Nat.le_refl _)
  exact ⟨_, l, r, h1, h2, h3, rfl⟩
theorem isT_one {base : Int} {s : ByteArray} {o o' : List T × Int × Int} (h : IsT base s o) (h' : IsT base s o') : o = o' := by
  obtain ⟨l, r, h1, h2, h3, rfl⟩ := h
  obtain ⟨l', r', h1', h2', h3', rfl⟩ := h'
  rw [h2] at h2'
  obtain ⟨rfl, rfl⟩ := enc_inj h3 h3' h1 h1' h2'
  rfl
noncomputable def outT (base : Int) (s : ByteArray) : List T × Int × Int := (isT_some base s).choose
theorem out_is (base : Int) (s : ByteArray) : IsT base s (outT base s) := (isT_some base s).choose_spec
theorem out_of {base : Int} {s : ByteArray} {o : List T × Int × Int} (h : IsT base s o) : outT base s = o := isT_one (out_is base s) h
theorem out_yes {base : Int} {s : ByteArray} {l : List El} (ho : okT l) (hs : s.data.toList = encT l) : outT base s = (placed base l, 0, 0) :=
  out_of ⟨l, [], ho, by rw [hs, List.append_nil], rfl, by rw [if_pos rfl]⟩
theorem out_no {base : Int} {s : ByteArray} {l : List El} {r : List UInt8} (ho : okT l) (hs : s.data.toList = encT l ++ r) (hr : cut1 r = none) (hn : r ≠ []) : outT base s = ([], base + ((encT l).length : Int), 2) :=
  out_of ⟨l, r, ho, hs, hr, by rw [if_neg hn]⟩
theorem out_cases (base : Int) (s : ByteArray) : (∃ l, okT l ∧ s.data.toList = encT l ∧ outT base s = (placed base l, 0, 0)) ∨ ∃ l r, okT l ∧ s.data.toList = encT l ++ r ∧ cut1 r = none ∧ r ≠ [] ∧ outT base s = ([], base + ((encT l).length : Int), 2) := by
  obtain ⟨l, r, h1, h2, h3⟩ := all_bytes _ s.data.toList (Nat.le_refl _)
  by_cases hr : r = []
  · subst hr
    rw [List.append_nil] at h2
    exact .inl ⟨l, h1, h2, out_yes h1 h2⟩
  · exact .inr ⟨l, r, h1, h2, h3, hr, out_no h1 h2 h3 hr⟩
/-- The bytes of a TLV, and whether it has them. -/
def putB (t : Int) (d : ByteArray) : Bool := decide (1 ≤ t) && decide (t ≤ 255) && decide (d.size ≤ 255)
def putO (t : Int) (d : ByteArray) : ByteArray := if putB t d = true then ⟨(UInt8.ofNat t.toNat :: UInt8.ofNat d.size :: d.data.toList).toArray⟩ else ⟨#[]⟩
theorem put_ok {x : El} (h : ok1 x) (h0 : ¬ x.2 = 0) : putB x.2 x.1 = true ∧ putO x.2 x.1 = ⟨(enc1 x).toArray⟩ := by
  obtain ⟨a, b, c, _⟩ := h
  have e : putB x.2 x.1 = true := by unfold putB; simp; omega
  refine ⟨e, ?_⟩
  unfold putO enc1
  rw [if_pos e, if_neg h0]
end Go.Proofs.YtfegdblaohhdoaaGreatDoor.F1
namespace Go.Proofs.YtfegdblaohhdoaaGreatDoor.Ms
open Go.ChangeShapes Go.WideShapes Go.ChangeAt Go.RowKit
set_option linter.unusedVariables false
set_option maxRecDepth 100000

/-- What stands in a list: a text and a number. -/
abbrev El := ByteArray × Int

/-- The elements of a list of Dest (text, number) stand in w. -/
def DRow (w : World) (a : Option Addr) (l : List El) : Prop :=
  ∀ i (h : i < l.length), ∃ p, a = some p ∧ p.block < w.heap.size ∧ w.cell? (p.add (i * 2)) = some (.string l[i].1) ∧ w.cell? ((p.add (i * 2)).add 1) = some (.int .i64 l[i].2)
/-- The elements of a list of Sub (number, text) stand in w. -/
def SRow (w : World) (a : Option Addr) (l : List El) : Prop :=
  ∀ i (h : i < l.length), ∃ p, a = some p ∧ p.block < w.heap.size ∧ w.cell? (p.add (i * 2)) = some (.int .i64 l[i].2) ∧ w.cell? ((p.add (i * 2)).add 1) = some (.string l[i].1)

theorem add_block (p : Addr) (n : Nat) : (p.add n).block = p.block := by unfold Addr.add; split <;> rfl

theorem DRow.below {w w' : World} {a : Option Addr} {l : List El} (h : DRow w a l) (hb : Below w.heap.size w w') : DRow w' a l := by
  intro i hi
  obtain ⟨p, h1, h2, h3, h4⟩ := h i hi
  refine ⟨p, h1, Nat.lt_of_lt_of_le h2 hb.size, ?_, ?_⟩
  · rw [hb.cell (by rw [add_block]; exact h2)]; exact h3
  · rw [hb.cell (by rw [add_block, add_block]; exact h2)]; exact h4
theorem SRow.below {w w' : World} {a : Option Addr} {l : List El} (h : SRow w a l) (hb : Below w.heap.size w w') : SRow w' a l := by
  intro i hi
  obtain ⟨p, h1, h2, h3, h4⟩ := h i hi
  refine ⟨p, h1, Nat.lt_of_lt_of_le h2 hb.size, ?_, ?_⟩
  · rw [hb.cell (by rw [add_block]; exact h2)]; exact h3
  · rw [hb.cell (by rw [add_block, add_block]; exact h2)]; exact h4
theorem DRow.nil (w : World) (a : Option Addr) : DRow w a [] := fun i hi => absurd hi (by simp)
theorem SRow.nil (w : World) (a : Option Addr) : SRow w a [] := fun i hi => absurd hi (by simp)

theorem take_two {α : Type} (x y : List α) (k : Nat) (hx : k < x.length) (hy : k < y.length) (h : x.take k = y.take k) (he : x[k] = y[k]) : x.take (k + 1) = y.take (k + 1) := by
  rw [List.take_succ_eq_append_getElem hx, List.take_succ_eq_append_getElem hy, h, he]

/-- A message. -/
structure M where
  kind : Int
  cmd : Int
  ver : Int
  auth : ByteArray
  family : Int
  ae : Int
  pfx : ByteArray
  plen : Int
  tag : Int
  next : ByteArray
  metric : Int
  id : ByteArray
  seq : Int
  seq2 : Int
  interval : Int
  flags : Int
  hops : Int
  nonce : Int
  cost : Int
  addr : ByteArray
  orig : ByteArray
  la : Option Addr
  ll : List El
  lc : Nat
  typ : Int
  data : ByteArray
  sa : Option Addr
  sl : List El
  sc : Nat

namespace M
def list (m : M) : Value := .slice m.la m.ll.length m.lc
def subs (m : M) : Value := .slice m.sa m.sl.length m.sc
def cells (m : M) : Array Value := #[.int .i64 m.kind, .int .i64 m.cmd, .int .i64 m.ver, .string m.auth, .int .i64 m.family, .int .i64 m.ae, .string m.pfx, .int .i64 m.plen, .int .i64 m.tag, .string m.next, .int .i64 m.metric, .string m.id, .int .i64 m.seq, .int .i64 m.seq2, .int .i64 m.interval, .int .i64 m.flags, .int .i64 m.hops, .int .i64 m.nonce, .int .i64 m.cost, .string m.addr, .string m.orig, m.list, .int .i64 m.typ, .string m.data, m.subs]
def flat (m : M) : Array Value := #[.int .i64 m.kind, .int .i64 m.cmd, .int .i64 m.ver, .string m.auth, .int .i64 m.family, .int .i64 m.ae, .string m.pfx, .int .i64 m.plen, .int .i64 m.tag, .string m.next, .int .i64 m.metric, .string m.id, .int .i64 m.seq, .int .i64 m.seq2, .int .i64 m.interval, .int .i64 m.flags, .int .i64 m.hops, .int .i64 m.nonce, .int .i64 m.cost, .string m.addr, .string m.orig, .int .i64 m.typ, .string m.data]
/-- The message's lists stand in w, and aren't long. -/
structure In (m : M) (w : World) : Prop where
  d : DRow w m.la m.ll
  s : SRow w m.sa m.sl
  dl : m.ll.length ≤ 1048576
  sl : m.sl.length ≤ 1048576
theorem In.below {m : M} {w w' : World} (h : m.In w) (hb : Below w.heap.size w w') : m.In w' := ⟨h.d.below hb, h.s.below hb, h.dl, h.sl⟩
/-- Are they the same, but for their lists? -/
def flatE (a b : M) : Bool := a.kind == b.kind && (a.cmd == b.cmd && (a.ver == b.ver && (a.auth.toList == b.auth.toList && (a.family == b.family && (a.ae == b.ae && (a.pfx.toList == b.pfx.toList && (a.plen == b.plen && (a.tag == b.tag && (a.next.toList == b.next.toList && (a.metric == b.metric && (a.id.toList == b.id.toList && (a.seq == b.seq && (a.seq2 == b.seq2 && (a.interval == b.interval && (a.flags == b.flags && (a.hops == b.hops && (a.nonce == b.nonce && (a.cost == b.cost && (a.addr.toList == b.addr.toList && (a.orig.toList == b.orig.toList && (a.typ == b.typ && a.data.toList == b.data.toList)))))))))))))))))))))
/-- Are they the same? -/
def same (a b : M) : Bool := flatE a b && (decide (a.ll = b.ll) && decide (a.sl = b.sl))
/-- A message without anything. -/
def zero : M := ⟨0, 0, 0, ByteArray.empty, 0, 0, ByteArray.empty, 0, 0, ByteArray.empty, 0, ByteArray.empty, 0, 0, 0, 0, 0, 0, 0, ByteArray.empty, ByteArray.empty, none, [], 0, 0, ByteArray.empty, none, [], 0⟩
end M

theorem eqF_int {P : Program} {W : World} {d : Nat} {f : Field} {fs : List Field} {xs ys : Array Value} {k k' : IntKind} {a b : Int} {r : Bool} (hn : f.name ≠ "_") (ht : P.underlying f.type = some (.int k'))
    (hx : (part f.type xs f.offset).run P W = .ok (.int k a) W) (hy : (part f.type ys f.offset).run P W = .ok (.int k b) W) (h : (Op.eqFields (d + 1) xs ys fs).run P W = .ok r W) :
    (Op.eqFields (d + 1) xs ys (f :: fs)).run P W = .ok (a == b && r) W := by
  simp only [Op.eqFields, ne_eq, hn, not_false_eq_true, if_true, Sem.run_bind, hx, hy, Result.andThen_ok, run_equalIn_int W d f.type k k' a b ht, Sem.run_ite, h, Sem.run_pure]
  cases a == b <;> simp
theorem eqF_str {P : Program} {W : World} {d : Nat} {f : Field} {fs : List Field} {xs ys : Array Value} {a b : ByteArray} {r : Bool} (hn : f.name ≠ "_") (ht : P.underlying f.type = some .string)
    (hx : (part f.type xs f.offset).run P W = .ok (.string a) W) (hy : (part f.type ys f.offset).run P W = .ok (.string b) W) (h : (Op.eqFields (d + 1) xs ys fs).run P W = .ok r W) :
    (Op.eqFields (d + 1) xs ys (f :: fs)).run P W = .ok (a.toList == b.toList && r) W := by
  simp only [Op.eqFields, ne_eq, hn, not_false_eq_true, if_true, Sem.run_bind, hx, hy, Result.andThen_ok, run_equalIn_string W d f.type a b ht, Sem.run_ite, h, Sem.run_pure]
  cases a.toList == b.toList <;> simp

theorem eqFlat (a b : M) (W : World) : (Op.equalIn 10000 107 (.agg a.flat) (.agg b.flat)).run Tryz.prog W = .ok (M.flatE a b) W := by
  have hf : Tryz.prog.underlying 107 = some (.struct (Tryz.prog.fieldsOf 107)) := by kernel_rfl
  have hp : Tryz.prog.stoodInHeld 107 = false := by kernel_rfl
  have he : M.flatE a b = (a.kind == b.kind && (a.cmd == b.cmd && (a.ver == b.ver && (a.auth.toList == b.auth.toList && (a.family == b.family && (a.ae == b.ae && (a.pfx.toList == b.pfx.toList && (a.plen == b.plen && (a.tag == b.tag && (a.next.toList == b.next.toList && (a.metric == b.metric && (a.id.toList == b.id.toList && (a.seq == b.seq && (a.seq2 == b.seq2 && (a.interval == b.interval && (a.flags == b.flags && (a.hops == b.hops && (a.nonce == b.nonce && (a.cost == b.cost && (a.addr.toList == b.addr.toList && (a.orig.toList == b.orig.toList && (a.typ == b.typ && (a.data.toList == b.data.toList && true))))))))))))))))))))))) := by
    unfold M.flatE; rw [Bool.and_true (a.data.toList == b.data.toList)]
  rw [run_equalIn_struct W 9999 107 a.flat b.flat hf hp, he]
  simp only [Program.fieldsOf, Tryz.underlying107]
  refine eqF_int (by decide) Tryz.underlying3 rfl rfl ?_
  refine eqF_int (by decide) Tryz.underlying3 rfl rfl ?_
  refine eqF_int (by decide) Tryz.underlying3 rfl rfl ?_
  refine eqF_str (by decide) Tryz.underlying9 rfl rfl ?_
  refine eqF_int (by decide) Tryz.underlying3 rfl rfl ?_
  refine eqF_int (by decide) Tryz.underlying3 rfl rfl ?_
  refine eqF_str (by decide) Tryz.underlying9 rfl rfl ?_
  refine eqF_int (by decide) Tryz.underlying3 rfl rfl ?_
  refine eqF_int (by decide) Tryz.underlying3 rfl rfl ?_
  refine eqF_str (by decide) Tryz.underlying9 rfl rfl ?_
  refine eqF_int (by decide) Tryz.underlying3 rfl rfl ?_
  refine eqF_str (by decide) Tryz.underlying9 rfl rfl ?_
  refine eqF_int (by decide) Tryz.underlying3 rfl rfl ?_
  refine eqF_int (by decide) Tryz.underlying3 rfl rfl ?_
  refine eqF_int (by decide) Tryz.underlying3 rfl rfl ?_
  refine eqF_int (by decide) Tryz.underlying3 rfl rfl ?_
  refine eqF_int (by decide) Tryz.underlying3 rfl rfl ?_
  refine eqF_int (by decide) Tryz.underlying3 rfl rfl ?_
  refine eqF_int (by decide) Tryz.underlying3 rfl rfl ?_
  refine eqF_str (by decide) Tryz.underlying9 rfl rfl ?_
  refine eqF_str (by decide) Tryz.underlying9 rfl rfl ?_
  refine eqF_int (by decide) Tryz.underlying3 rfl rfl ?_
  refine eqF_str (by decide) Tryz.underlying9 rfl rfl ?_
  rfl

theorem run_eqlFlat (a b : M) (W : World) : (binOp .eql 107 (.agg a.flat) (.agg b.flat)).run Tryz.prog W = .ok (.bool (M.flatE a b)) W := by
  rw [run_eql_struct, eqFlat]; rfl
theorem run_guardFlat (a b : M) (x y : Operand) (W : World) : (eqGuard .eql 107 x y (.agg a.flat) (.agg b.flat)).run Tryz.prog W = .ok () W := run_eqGuard_agg W .eql _ x y a.flat b.flat (by kernel_rfl)

def elE (x y : El) : Bool := decide (x = y)
theorem bytes_beq (a b : ByteArray) : (a.toList == b.toList) = decide (a = b) := by
  rw [← beq_toListBytes]
  by_cases h : a = b
  · subst h; rw [beq_toListBytes]; simp
  · have : (a == b) = false := by
      rw [beq_toListBytes]
      simp only [ByteArray.toList_eq, beq_eq_false_iff_ne, ne_eq]
      intro h2
      exact h (ByteArray.ext (Array.ext' h2))
    rw [this]; simp [h]
theorem elE_eq (x y : El) : elE x y = (x.1.toList == y.1.toList && (x.2 == y.2 && true)) := by
  obtain ⟨a, n⟩ := x
  obtain ⟨b, m⟩ := y
  unfold elE
  rw [bytes_beq, Bool.and_true]
  by_cases h1 : a = b <;> by_cases h2 : n = m <;> simp [h1, h2]
theorem elE_eq' (x y : El) : elE x y = (x.2 == y.2 && (x.1.toList == y.1.toList && true)) := by
  rw [elE_eq, Bool.and_true, Bool.and_true, Bool.and_comm]

theorem run_neqDest (x y : El) (W : World) : (binOp .neq 44 (.agg #[.string x.1, .int .i64 x.2]) (.agg #[.string y.1, .int .i64 y.2])).run Tryz.prog W = .ok (.bool (!elE x y)) W := by
  have hf : Tryz.prog.underlying 44 = some (.struct (Tryz.prog.fieldsOf 44)) := by kernel_rfl
  have hp : Tryz.prog.stoodInHeld 44 = false := by kernel_rfl
  have hq : (Op.equalIn 10000 44 (.agg #[.string x.1, .int .i64 x.2]) (.agg #[.string y.1, .int .i64 y.2])).run Tryz.prog W = .ok (elE x y) W := by
    rw [run_equalIn_struct W 9999 44 _ _ hf hp, elE_eq]
    simp only [Program.fieldsOf, Tryz.underlying44]
    refine eqF_str (by decide) Tryz.underlying9 rfl rfl ?_
    refine eqF_int (by decide) Tryz.underlying3 rfl rfl ?_
    rfl
  rw [run_neq_struct, hq]; rfl
theorem run_neqSub (x y : El) (W : World) : (binOp .neq 46 (.agg #[.int .i64 x.2, .string x.1]) (.agg #[.int .i64 y.2, .string y.1])).run Tryz.prog W = .ok (.bool (!elE x y)) W := by
  have hf : Tryz.prog.underlying 46 = some (.struct (Tryz.prog.fieldsOf 46)) := by kernel_rfl
  have hp : Tryz.prog.stoodInHeld 46 = false := by kernel_rfl
  have hq : (Op.equalIn 10000 46 (.agg #[.int .i64 x.2, .string x.1]) (.agg #[.int .i64 y.2, .string y.1])).run Tryz.prog W = .ok (elE x y) W := by
    rw [run_equalIn_struct W 9999 46 _ _ hf hp, elE_eq']
    simp only [Program.fieldsOf, Tryz.underlying46]
    refine eqF_int (by decide) Tryz.underlying3 rfl rfl ?_
    refine eqF_str (by decide) Tryz.underlying9 rfl rfl ?_
    rfl
  rw [run_neq_struct, hq]; rfl
theorem run_guardDest (x y : El) (o p : Operand) (W : World) : (eqGuard .neq 44 o p (.agg #[.string x.1, .int .i64 x.2]) (.agg #[.string y.1, .int .i64 y.2])).run Tryz.prog W = .ok () W := run_eqGuard_agg W .neq _ o p _ _ (by kernel_rfl)
theorem run_guardSub (x y : El) (o p : Operand) (W : World) : (eqGuard .neq 46 o p (.agg #[.int .i64 x.2, .string x.1]) (.agg #[.int .i64 y.2, .string y.1])).run Tryz.prog W = .ok () W := run_eqGuard_agg W .neq _ o p _ _ (by kernel_rfl)

theorem indexD (p : Addr) (n c i : Nat) (h : i < n) (W : World) : (Instr.indexAt 26 (.slice (some p) n c) (.int .i64 (i : Int))).run Tryz.prog W = .ok (.pointer (some (p.add (i * 2)))) W := by
  have he : Tryz.prog.elem 26 = 44 := by simp [Program.elem, Tryz.underlying26]
  have hz : (sizeOf 44).run Tryz.prog W = .ok 2 W := by go_simp
  rw [run_indexAt_slice W 26 p n c .i64 (i : Int) (by rw [he]; exact Tryz.underlying26), if_pos (by omega), he, hz]
  rfl
theorem indexS (p : Addr) (n c i : Nat) (h : i < n) (W : World) : (Instr.indexAt 27 (.slice (some p) n c) (.int .i64 (i : Int))).run Tryz.prog W = .ok (.pointer (some (p.add (i * 2)))) W := by
  have he : Tryz.prog.elem 27 = 46 := by simp [Program.elem, Tryz.underlying27]
  have hz : (sizeOf 46).run Tryz.prog W = .ok 2 W := by go_simp
  rw [run_indexAt_slice W 27 p n c .i64 (i : Int) (by rw [he]; exact Tryz.underlying27), if_pos (by omega), he, hz]
  rfl
theorem add_one (p : Addr) : p.add 1 = ⟨p.block, p.off + 1, none⟩ := rfl
theorem bool_eq {a b : Bool} (h : a = b) : Ending.returned (.bool a) = .returned (.bool b) := by rw [h]
theorem bcall {w W w1 : World} (h : Below w.heap.size w W) (hb : Below W.heap.size W w1) : Below w.heap.size w w1 := h.trans (hb.mono h.size)
theorem balloc {w W : World} (h : Below w.heap.size w W) (o : Obj) : Below w.heap.size w (W.alloc o) := h.alloc h.size o
end Go.Proofs.YtfegdblaohhdoaaGreatDoor.Ms
namespace Go.Proofs.YtfegdblaohhdoaaGreatDoor.Eq
open Go.ChangeShapes Go.WideShapes Go.ChangeAt Go.RowKit
open Go.Proofs.YtfegdblaohhdoaaGreatDoor.Ms
set_option linter.unusedVariables false
set_option maxRecDepth 100000

set_option maxHeartbeats 1600000 in
theorem rdests_any (a b : Option Addr) (ca cb : Nat) (x y : List El) (w : World) (hx : DRow w a x) (hy : DRow w b y) (lx : x.length ≤ 1048576) (ly : y.length ≤ 1048576) :
    Calls Tryz.prog 41 #[.slice a x.length ca, .slice b y.length cb] w fun e w' => e = .returned (.bool (decide (x = y))) ∧ Below w.heap.size w w' := by
  by_cases hl : x.length = y.length
  · have HL := Lib.hid hl
    go_enter Tryz.func41, Tryz.ntmps41
    go_wp2
    go_loopw [5] (fun i wr => ∃ k : Nat, k ≤ x.length ∧ i = .int .i64 k ∧ Hid (x.take k = y.take k) ∧ Hid (Below w.heap.size w wr)) (fun i _ => x.length - (intOf i).toNat)
    case atStart => exact ⟨0, Nat.zero_le _, rfl, Lib.hid rfl, Lib.hid (Below.refl _ _)⟩
    case round =>
      obtain ⟨k, hk, rfl, HT, HB⟩ := hrel
      by_cases hlt : k < x.length
      · have hlt2 : k < y.length := by omega
        obtain ⟨p, rfl, _, c0, c1⟩ := (hx.below HB.out) k hlt
        obtain ⟨q, rfl, _, d0, d1⟩ := (hy.below HB.out) k hlt2
        have i0 := indexD p x.length ca k hlt
        have i1 := indexD q y.length cb k hlt2
        have g0 := run_neqDest x[k] y[k]
        have g1 := run_guardDest x[k] y[k]
        have HS := Lib.hid (take_two x y k hlt hlt2 HT.out)
        have HD := Lib.hid (show x = y → x[k] = y[k] from fun h => by simp [h])
        clear HT hx hy
        generalize x[k] = u at *
        generalize y[k] = v at *
        rw [add_one] at c1 d1
        by_cases he : u = v
        · have g2 : elE u v = true := by simp [elE, he]
          have HE := Lib.hid he
          clear he
          go_wp2
          go_quiet (fail)
          go_wp2
          go_roundw
          case rel => exact ⟨k + 1, hlt, by go_num, Lib.hid (HS.out HE.out), Lib.hid (below_drewN HB.out _)⟩
          case measure => simp [intOf]; omega
        · have g2 : elE u v = false := by simp [elE, he]
          have HE := Lib.hid he
          clear he
          go_wp2
          go_quiet (fail)
          go_wp2
          go_ret
          exact ⟨bool_eq (by simp; intro h; exact HE.out (HD.out h)), below_drewN HB.out _⟩
      · obtain rfl : k = x.length := by omega
        have he : x = y := by
          have h := HT.out
          rwa [List.take_length, HL.out, List.take_length] at h
        have HE := Lib.hid he
        clear he
        go_wp2
        go_ret
        exact ⟨bool_eq (by simpa using HE.out), HB.out⟩
  · go_enter Tryz.func41, Tryz.ntmps41
    go_wp2
    go_ret
    exact ⟨bool_eq (by simp; intro h; exact hl (by rw [h])), Below.refl _ _⟩
set_option maxHeartbeats 1600000 in
theorem rsubs_any (a b : Option Addr) (ca cb : Nat) (x y : List El) (w : World) (hx : SRow w a x) (hy : SRow w b y) (lx : x.length ≤ 1048576) (ly : y.length ≤ 1048576) :
    Calls Tryz.prog 42 #[.slice a x.length ca, .slice b y.length cb] w fun e w' => e = .returned (.bool (decide (x = y))) ∧ Below w.heap.size w w' := by
  by_cases hl : x.length = y.length
  · have HL := Lib.hid hl
    go_enter Tryz.func42, Tryz.ntmps42
    go_wp2
    go_loopw [5] (fun i wr => ∃ k : Nat, k ≤ x.length ∧ i = .int .i64 k ∧ Hid (x.take k = y.take k) ∧ Hid (Below w.heap.size w wr)) (fun i _ => x.length - (intOf i).toNat)
    case atStart => exact ⟨0, Nat.zero_le _, rfl, Lib.hid rfl, Lib.hid (Below.refl _ _)⟩
    case round =>
      obtain ⟨k, hk, rfl, HT, HB⟩ := hrel
      by_cases hlt : k < x.length
      · have hlt2 : k < y.length := by omega
        obtain ⟨p, rfl, _, c0, c1⟩ := (hx.below HB.out) k hlt
        obtain ⟨q, rfl, _, d0, d1⟩ := (hy.below HB.out) k hlt2
        have i0 := indexS p x.length ca k hlt
        have i1 := indexS q y.length cb k hlt2
        have g0 := run_neqSub x[k] y[k]
        have g1 := run_guardSub x[k] y[k]
        have HS := Lib.hid (take_two x y k hlt hlt2 HT.out)
        have HD := Lib.hid (show x = y → x[k] = y[k] from fun h => by simp [h])
        clear HT hx hy
        generalize x[k] = u at *
        generalize y[k] = v at *
        rw [add_one] at c1 d1
        by_cases he : u = v
        · have g2 : elE u v = true := by simp [elE, he]
          have HE := Lib.hid he
          clear he
          go_wp2
          go_quiet (fail)
          go_wp2
          go_roundw
          case rel => exact ⟨k + 1, hlt, by go_num, Lib.hid (HS.out HE.out), Lib.hid (below_drewN HB.out _)⟩
          case measure => simp [intOf]; omega
        · have g2 : elE u v = false := by simp [elE, he]
          have HE := Lib.hid he
          clear he
          go_wp2
          go_quiet (fail)
          go_wp2
          go_ret
          exact ⟨bool_eq (by simp; intro h; exact HE.out (HD.out h)), below_drewN HB.out _⟩
      · obtain rfl : k = x.length := by omega
        have he : x = y := by
          have h := HT.out
          rwa [List.take_length, HL.out, List.take_length] at h
        have HE := Lib.hid he
        clear he
        go_wp2
        go_ret
        exact ⟨bool_eq (by simpa using HE.out), HB.out⟩
  · go_enter Tryz.func42, Tryz.ntmps42
    go_wp2
    go_ret
    exact ⟨bool_eq (by simp; intro h; exact hl (by rw [h])), Below.refl _ _⟩
set_option maxHeartbeats 1600000 in
theorem dests_any (a b : Option Addr) (ca cb : Nat) (x y : List El) (w : World) (hx : DRow w a x) (hy : DRow w b y) (lx : x.length ≤ 1048576) (ly : y.length ≤ 1048576) :
    Calls Tryz.prog 101 #[.slice a x.length ca, .slice b y.length cb] w fun e w' => e = .returned (.bool (decide (x = y))) ∧ Below w.heap.size w w' := by
  by_cases hl : x.length = y.length
  · have HL := Lib.hid hl
    go_enter Tryz.func101, Tryz.ntmps101
    go_wp2
    go_loopw [13] (fun i wr => ∃ k : Nat, k ≤ x.length ∧ i = .int .i64 k ∧ Hid (x.take k = y.take k) ∧ Hid (Below w.heap.size w wr)) (fun i _ => x.length - (intOf i).toNat)
    case atStart => exact ⟨0, Nat.zero_le _, rfl, Lib.hid rfl, Lib.hid (Below.refl _ _)⟩
    case round =>
      obtain ⟨k, hk, rfl, HT, HB⟩ := hrel
      by_cases hlt : k < x.length
      · have hlt2 : k < y.length := by omega
        obtain ⟨p, rfl, _, c0, c1⟩ := (hx.below HB.out) k hlt
        obtain ⟨q, rfl, _, d0, d1⟩ := (hy.below HB.out) k hlt2
        have i0 := indexD p x.length ca k hlt
        have i1 := indexD q y.length cb k hlt2
        have g0 := run_neqDest x[k] y[k]
        have g1 := run_guardDest x[k] y[k]
        have HS := Lib.hid (take_two x y k hlt hlt2 HT.out)
        have HD := Lib.hid (show x = y → x[k] = y[k] from fun h => by simp [h])
        clear HT hx hy
        generalize x[k] = u at *
        generalize y[k] = v at *
        rw [add_one] at c1 d1
        by_cases he : u = v
        · have g2 : elE u v = true := by simp [elE, he]
          have HE := Lib.hid he
          clear he
          go_wp2
          go_quiet (fail)
          go_wp2
          go_roundw
          case rel => exact ⟨k + 1, hlt, by go_num, Lib.hid (HS.out HE.out), Lib.hid (below_drewN HB.out _)⟩
          case measure => simp [intOf]; omega
        · have g2 : elE u v = false := by simp [elE, he]
          have HE := Lib.hid he
          clear he
          go_wp2
          go_quiet (fail)
          go_wp2
          go_ret
          exact ⟨bool_eq (by simp; intro h; exact HE.out (HD.out h)), below_drewN HB.out _⟩
      · obtain rfl : k = x.length := by omega
        have he : x = y := by
          have h := HT.out
          rwa [List.take_length, HL.out, List.take_length] at h
        have HE := Lib.hid he
        clear he
        go_wp2
        go_ret
        exact ⟨bool_eq (by simpa using HE.out), HB.out⟩
  · go_enter Tryz.func101, Tryz.ntmps101
    go_wp2
    go_ret
    exact ⟨bool_eq (by simp; intro h; exact hl (by rw [h])), Below.refl _ _⟩
set_option maxHeartbeats 1600000 in
theorem subs_any (a b : Option Addr) (ca cb : Nat) (x y : List El) (w : World) (hx : SRow w a x) (hy : SRow w b y) (lx : x.length ≤ 1048576) (ly : y.length ≤ 1048576) :
    Calls Tryz.prog 102 #[.slice a x.length ca, .slice b y.length cb] w fun e w' => e = .returned (.bool (decide (x = y))) ∧ Below w.heap.size w w' := by
  by_cases hl : x.length = y.length
  · have HL := Lib.hid hl
    go_enter Tryz.func102, Tryz.ntmps102
    go_wp2
    go_loopw [13] (fun i wr => ∃ k : Nat, k ≤ x.length ∧ i = .int .i64 k ∧ Hid (x.take k = y.take k) ∧ Hid (Below w.heap.size w wr)) (fun i _ => x.length - (intOf i).toNat)
    case atStart => exact ⟨0, Nat.zero_le _, rfl, Lib.hid rfl, Lib.hid (Below.refl _ _)⟩
    case round =>
      obtain ⟨k, hk, rfl, HT, HB⟩ := hrel
      by_cases hlt : k < x.length
      · have hlt2 : k < y.length := by omega
        obtain ⟨p, rfl, _, c0, c1⟩ := (hx.below HB.out) k hlt
        obtain ⟨q, rfl, _, d0, d1⟩ := (hy.below HB.out) k hlt2
        have i0 := indexS p x.length ca k hlt
        have i1 := indexS q y.length cb k hlt2
        have g0 := run_neqSub x[k] y[k]
        have g1 := run_guardSub x[k] y[k]
        have HS := Lib.hid (take_two x y k hlt hlt2 HT.out)
        have HD := Lib.hid (show x = y → x[k] = y[k] from fun h => by simp [h])
        clear HT hx hy
        generalize x[k] = u at *
        generalize y[k] = v at *
        rw [add_one] at c1 d1
        by_cases he : u = v
        · have g2 : elE u v = true := by simp [elE, he]
          have HE := Lib.hid he
          clear he
          go_wp2
          go_quiet (fail)
          go_wp2
          go_roundw
          case rel => exact ⟨k + 1, hlt, by go_num, Lib.hid (HS.out HE.out), Lib.hid (below_drewN HB.out _)⟩
          case measure => simp [intOf]; omega
        · have g2 : elE u v = false := by simp [elE, he]
          have HE := Lib.hid he
          clear he
          go_wp2
          go_quiet (fail)
          go_wp2
          go_ret
          exact ⟨bool_eq (by simp; intro h; exact HE.out (HD.out h)), below_drewN HB.out _⟩
      · obtain rfl : k = x.length := by omega
        have he : x = y := by
          have h := HT.out
          rwa [List.take_length, HL.out, List.take_length] at h
        have HE := Lib.hid he
        clear he
        go_wp2
        go_ret
        exact ⟨bool_eq (by simpa using HE.out), HB.out⟩
  · go_enter Tryz.func102, Tryz.ntmps102
    go_wp2
    go_ret
    exact ⟨bool_eq (by simp; intro h; exact hl (by rw [h])), Below.refl _ _⟩
end Go.Proofs.YtfegdblaohhdoaaGreatDoor.Eq
namespace Go.Proofs.YtfegdblaohhdoaaGreatDoor.Box
open Go.ChangeShapes Go.WideShapes Go.ChangeAt Go.RowKit
open Go.Proofs.YtfegdblaohhdoaaGreatDoor.Ms
set_option linter.unusedVariables false
set_option maxRecDepth 100000

theorem below_setRow {B : Nat} {a w : World} (h : Below B a w) {g : Nat} (hg : B ≤ g) (cs : Array Value) : Below B a (w.setRow g cs) :=
  h.trans ⟨rfl, rfl, rfl, by simp, fun k hk => setRow_other w g k cs (by omega)⟩

theorem wpList_built {P : Program} {ops : Array Oper} {rest : List Oper} {o : Oper} {a : Act} {w : World} {Q : Exit → Act → World → Prop} (hg : o.guard = none) (t : TypeId) (parts : Array (Nat × Operand)) (ho : o.op = .build t parts)
    (cells : Array Value) (hc : P.built t (parts.map fun (i, x) => (i, a.eval x)).toList = some cells)
    (h : wpList P ops Q rest (a.put o.dst (.agg cells)) w) : wpList P ops Q (o :: rest) a w :=
  wpList_build hg t parts ho (by rw [hc]; rfl) (by rw [hc]; exact h)

/-- Message m stands in block b. -/
def Bx (w : World) (b : Nat) (m : M) : Prop := w.heap[b]? = some (.cells m.cells 29 (0, 0))
theorem Bx.lt {w : World} {b : Nat} {m : M} (h : Bx w b m) : b < w.heap.size := (Array.getElem?_eq_some_iff.1 h).1
theorem Bx.below {w w' : World} {b : Nat} {m : M} (h : Bx w b m) (hb : Below w.heap.size w w') : Bx w' b m := (hb.block b h.lt).trans h
theorem Bx.new (w : World) (m : M) : Bx (w.alloc (.cells m.cells 29)) w.heap.size m := heap_alloc_new w _
theorem Bx.old {w : World} {b : Nat} {m : M} (h : Bx w b m) (o : Obj) : Bx (w.alloc o) b m := (heap_alloc_old w o h.lt).trans h
theorem Bx.row {w : World} {g b : Nat} {m : M} (h : Bx w b m) (hn : b ≠ g) (cs : Array Value) : Bx (w.setRow g cs) b m := (setRow_other w g b cs hn).trans h
theorem Bx.put {w : World} {b : Nat} {m m' : M} (h : Bx w b m) : Bx (w.setRow b m'.cells) b m' := setRow_heap w b m.cells m'.cells _ _ h
theorem Bx.set {w : World} {b i : Nat} {m m' : M} {v : Value} (h : Bx w b m) (hm : m.cells.setIfInBounds i v = m'.cells) : Bx (w.setCell ⟨b, i, none⟩ v) b m' := by
  have := heap_setCell_same w b i m.cells 29 v h
  rw [hm] at this
  exact this
theorem Bx.off {w : World} {b : Nat} {m : M} (h : Bx w b m) {p : Addr} (hn : b ≠ p.block) (v : Value) : Bx (w.setCell p v) b m := (heap_setCell_other w p b v hn).trans h
theorem Bx.cell {w : World} {b : Nat} {m : M} (h : Bx w b m) (j : Nat) (v : Value) (hv : m.cells[j]? = some v) : w.cell? ⟨b, j, none⟩ = some v := by
  rw [cell_of_row w b j m.cells _ _ h, hv]
theorem Bx.frozen {w : World} {b : Nat} {m : M} (h : Bx w b m) (j : Nat) : w.frozen? ⟨b, j, none⟩ = false := frozen_of_row w b j m.cells _ h

structure Cs (w : World) (b : Nat) (m : M) : Prop where
  c0 : w.cell? ⟨b, 0, none⟩ = some (.int .i64 m.kind)
  c1 : w.cell? ⟨b, 1, none⟩ = some (.int .i64 m.cmd)
  c2 : w.cell? ⟨b, 2, none⟩ = some (.int .i64 m.ver)
  c3 : w.cell? ⟨b, 3, none⟩ = some (.string m.auth)
  c4 : w.cell? ⟨b, 4, none⟩ = some (.int .i64 m.family)
  c5 : w.cell? ⟨b, 5, none⟩ = some (.int .i64 m.ae)
  c6 : w.cell? ⟨b, 6, none⟩ = some (.string m.pfx)
  c7 : w.cell? ⟨b, 7, none⟩ = some (.int .i64 m.plen)
  c8 : w.cell? ⟨b, 8, none⟩ = some (.int .i64 m.tag)
  c9 : w.cell? ⟨b, 9, none⟩ = some (.string m.next)
  c10 : w.cell? ⟨b, 10, none⟩ = some (.int .i64 m.metric)
  c11 : w.cell? ⟨b, 11, none⟩ = some (.string m.id)
  c12 : w.cell? ⟨b, 12, none⟩ = some (.int .i64 m.seq)
  c13 : w.cell? ⟨b, 13, none⟩ = some (.int .i64 m.seq2)
  c14 : w.cell? ⟨b, 14, none⟩ = some (.int .i64 m.interval)
  c15 : w.cell? ⟨b, 15, none⟩ = some (.int .i64 m.flags)
  c16 : w.cell? ⟨b, 16, none⟩ = some (.int .i64 m.hops)
  c17 : w.cell? ⟨b, 17, none⟩ = some (.int .i64 m.nonce)
  c18 : w.cell? ⟨b, 18, none⟩ = some (.int .i64 m.cost)
  c19 : w.cell? ⟨b, 19, none⟩ = some (.string m.addr)
  c20 : w.cell? ⟨b, 20, none⟩ = some (.string m.orig)
  c21 : w.cell? ⟨b, 21, none⟩ = some (.slice m.la m.ll.length m.lc)
  c22 : w.cell? ⟨b, 22, none⟩ = some (.int .i64 m.typ)
  c23 : w.cell? ⟨b, 23, none⟩ = some (.string m.data)
  c24 : w.cell? ⟨b, 24, none⟩ = some (.slice m.sa m.sl.length m.sc)
theorem Bx.cs {w : World} {b : Nat} {m : M} (h : Bx w b m) : Cs w b m := by
  constructor <;> exact h.cell _ _ rfl

theorem oneM (m : M) : (m.cells.all fun x => x.oneCell') = true := by simp [M.cells, M.list, M.subs, Value.oneCell']
theorem oneF (m : M) : (m.flat.all fun x => x.oneCell') = true := by simp [M.flat, Value.oneCell']
theorem infoM : (Tryz.prog.info? 29).map (·.size) = some 25 := by kernel_rfl
theorem infoF : (Tryz.prog.info? 107).map (·.size) = some 23 := by kernel_rfl

theorem wpList_loadM {ops : Array Oper} {rest : List Oper} {o : Oper} {a : Act} {w : World} {Q : Exit → Act → World → Prop} (hgd : o.guard = none) (x : Operand) (ho : o.op = .load 29 x)
    {b : Nat} (hx : a.eval x = .pointer (some ⟨b, 0, none⟩)) {m : M} (hb : Bx w b m)
    (h : wpList Tryz.prog ops Q rest (a.put o.dst (.agg m.cells)) w) : wpList Tryz.prog ops Q (o :: rest) a w :=
  wpList_load_row hgd 29 x ho b hx 29 m.cells (0, 0) _ hb Tryz.underlying29 rfl infoM h
theorem wpList_storeM {ops : Array Oper} {rest : List Oper} {o : Oper} {a : Act} {w : World} {Q : Exit → Act → World → Prop} (hgd : o.guard = none) (x y : Operand) (ho : o.op = .store 29 x y)
    {b : Nat} (hx : a.eval x = .pointer (some ⟨b, 0, none⟩)) {m m' : M} (hy : a.eval y = .agg m'.cells) (hb : Bx w b m)
    (h : wpList Tryz.prog ops Q rest (a.put o.dst undef) (w.setRow b m'.cells)) : wpList Tryz.prog ops Q (o :: rest) a w :=
  wpList_store_row hgd 29 x y ho b m'.cells hx hy 29 m.cells hb infoM rfl (oneM m') h
end Go.Proofs.YtfegdblaohhdoaaGreatDoor.Box
namespace Go.Proofs.YtfegdblaohhdoaaGreatDoor.Same
open Go.ChangeShapes Go.WideShapes Go.ChangeAt Go.RowKit
open Go.Proofs.YtfegdblaohhdoaaGreatDoor.Ms
open Go.Proofs.YtfegdblaohhdoaaGreatDoor.Box
set_option linter.unusedVariables false
set_option maxRecDepth 100000

theorem alloc_size (w : World) (o : Obj) : (w.alloc o).heap.size = w.heap.size + 1 := by show (w.heap.push o).size = _; simp

set_option maxHeartbeats 1600000 in
set_option maxRecDepth 100000 in
theorem flatten_any (m : M) (w : World) :
    Calls Tryz.prog 100 #[.agg m.cells] w fun e w' => e = .returned (.agg m.flat) ∧ Below w.heap.size w w' := by
  have hb := Bx.new w m
  have hbel := balloc (Below.refl _ w) (.cells m.cells 29)
  have hsz := alloc_size w (.cells m.cells 29)
  go_enter Tryz.func100, Tryz.ntmps100
  go_upto_region 1 with fail
  generalize w.alloc (.cells m.cells 29) = W at *
  have hz : W.heap.size = w.heap.size + 1 := hsz
  have h2 := heap_alloc_new W (.cells M.zero.flat 107)
  rw [hz] at h2
  have hb2 := hb.old (.cells M.zero.flat 107)
  have hbel2 := balloc hbel (.cells M.zero.flat 107)
  clear hsz hz hb hbel
  change Code.wp _ _ _ _ (W.alloc (.cells M.zero.flat 107))
  generalize W.alloc (.cells M.zero.flat 107) = V at *
  clear W
  obtain ⟨c0, c1, c2, c3, c4, c5, c6, c7, c8, c9, c10, c11, c12, c13, c14, c15, c16, c17, c18, c19, c20, c21, c22, c23, c24⟩ := hb2.cs
  have H2 := Lib.hid h2
  clear h2 hb2 c21 c24
  go_wp2_with (first | (refine wpList_built rfl 107 _ rfl m.flat (by kernel_rfl) ?_) | (refine wpList_store_row rfl 107 _ _ rfl (w.heap.size + 1) m.flat rfl rfl 107 M.zero.flat H2.out infoF rfl (oneF m) ?_))
  exact bodyPost_ret (v := .agg m.flat) (results_cell_row (p := 2) (ty := 107) rfl _ _ (w.heap.size + 1) 107 m.flat (0, 0) _ rfl (setRow_heap V (w.heap.size + 1) M.zero.flat m.flat 107 _ H2.out) Tryz.underlying107 rfl infoF) rfl ⟨rfl, below_setRow hbel2 (by omega) _⟩
end Go.Proofs.YtfegdblaohhdoaaGreatDoor.Same
namespace Go.Proofs.YtfegdblaohhdoaaGreatDoor.Hs
open Go.ChangeShapes Go.WideShapes Go.ChangeAt Go.RowKit
open Go.Proofs.YtfegdblaohhdoaaGreatDoor.Ms
open Go.Proofs.YtfegdblaohhdoaaGreatDoor.Box
set_option linter.unusedVariables false
set_option maxRecDepth 100000

section
variable {P : Program} {ops : Array Oper} {Q : Exit → Act → World → Prop} {md : Region.Mode} {S : World → Prop}
theorem H.skip {i : Nat} {d : Tmp} {fuel : Nat} {listed : Array Bool} {a : Act} {w : World}
    (hd : (ops[i]?).map (fun o => (o.dst, Region.wanted o (yielded ops a.tmps))) = some (some d, false))
    (hs : Region.noSelect ops = true) (hf : Region.free md ops listed i = true) (hr : (Region.ready md ops listed).contains i = true)
    (hQ : ∀ c a w, Q (.panic c) (a.put (some d) undef) w → Q (.panic c) a w) (hS : S w)
    (h : wpAnyH P md ops Q S fuel (listed.setIfInBounds i true) (a.put (some d) undef) w) : wpAnyH P md ops Q S (fuel + 1) listed a w := by
  cases ho : ops[i]? with
  | none => rw [ho] at hd; cases hd
  | some o =>
    rw [ho] at hd
    simp only [Option.map_some, Option.some.injEq, Prod.mk.injEq] at hd
    obtain ⟨h1, h2⟩ := hd
    refine wpAnyH_take (v := undef) ho hs hf hr ?_ (.inr ⟨h2, rfl⟩) hS ?_
    · rw [h1]; exact hQ
    · rw [h1]; exact h
theorem H.take {i : Nat} {o : Oper} {d : Tmp} {v : Value} {fuel : Nat} {listed : Array Bool} {a : Act} {w : World}
    (ho : ops[i]? = some o) (hw : Region.wanted o (yielded ops a.tmps) = true) (hd : o.dst = some d)
    (hs : Region.noSelect ops = true) (hf : Region.free md ops listed i = true) (hr : (Region.ready md ops listed).contains i = true)
    (hQ : ∀ c a w, Q (.panic c) (a.put (some d) v) w → Q (.panic c) a w)
    (hy : ∀ w, S w → (execOp a.eval o).run P w = .ok (.value v) w) (hS : S w)
    (h : wpAnyH P md ops Q S fuel (listed.setIfInBounds i true) (a.put (some d) v) w) : wpAnyH P md ops Q S (fuel + 1) listed a w := by
  refine wpAnyH_take (v := v) ho hs hf hr ?_ (.inl ⟨hw, hy⟩) hS ?_
  · rw [hd]; exact hQ
  · rw [hd]; exact h
/-- H.take, its side conditions shown by themselves. -/
theorem H.tk {i : Nat} {o : Oper} {d : Tmp} {v : Value} {fuel : Nat} {listed : Array Bool} {a : Act} {w : World}
    (hy : ∀ w, S w → (execOp a.eval o).run P w = .ok (.value v) w) (hS : S w)
    (h : wpAnyH P md ops Q S fuel (listed.setIfInBounds i true) (a.put (some d) v) w)
    (ho : ops[i]? = some o := by simp only [List.getElem?_toArray, List.getElem?_cons_succ, List.getElem?_cons_zero]; rfl)
    (hw : Region.wanted o (yielded ops a.tmps) = true := by kernel_rfl) (hd : o.dst = some d := by rfl)
    (hs : Region.noSelect ops = true := by kernel_rfl) (hf : Region.free md ops listed i = true := by kernel_rfl) (hr : (Region.ready md ops listed).contains i = true := by kernel_rfl)
    (hQ : ∀ c a w, Q (.panic c) (a.put (some d) v) w → Q (.panic c) a w := by exact fun _ _ _ h => h) : wpAnyH P md ops Q S (fuel + 1) listed a w :=
  H.take ho hw hd hs hf hr hQ hy hS h
theorem H.sk {i : Nat} {d : Tmp} {fuel : Nat} {listed : Array Bool} {a : Act} {w : World} (hS : S w)
    (h : wpAnyH P md ops Q S fuel (listed.setIfInBounds i true) (a.put (some d) undef) w)
    (hd : (ops[i]?).map (fun o => (o.dst, Region.wanted o (yielded ops a.tmps))) = some (some d, false) := by kernel_rfl)
    (hs : Region.noSelect ops = true := by kernel_rfl) (hf : Region.free md ops listed i = true := by kernel_rfl) (hr : (Region.ready md ops listed).contains i = true := by kernel_rfl)
    (hQ : ∀ c a w, Q (.panic c) (a.put (some d) undef) w → Q (.panic c) a w := by exact fun _ _ _ h => h) : wpAnyH P md ops Q S (fuel + 1) listed a w :=
  H.skip hd hs hf hr hQ hS h
end

theorem run_loadM {o : Oper} {ρ : Operand → Value} {x : Operand} {b : Nat} {m : M} {w : World} (ho : o.op = .load 29 x) (hx : ρ x = .pointer (some ⟨b, 0, none⟩)) (hb : Bx w b m) :
    (execOp ρ o).run Tryz.prog w = .ok (.value (.agg m.cells)) w := by
  unfold execOp
  simp only [ho, hx, Instr.loadAt, Instr.sureAddr, Sem.run_bind, Sem.run_pure, Result.andThen_ok, run_loadVar_row w b 29 29 m.cells (0, 0) _ hb Tryz.underlying29 rfl infoM]

theorem run_eqF {o : Oper} {ρ : Operand → Value} {x y : Operand} {a b : M} {w : World} {r : Bool} (ho : o.op = .binOp .eql 107 x y 107) (hx : ρ x = .agg a.flat) (hy : ρ y = .agg b.flat) (hr : M.flatE a b = r) :
    (execOp ρ o).run Tryz.prog w = .ok (.value (.bool r)) w := by
  unfold execOp
  subst hr
  simp only [ho, hx, hy, Sem.run_bind, run_guardFlat, Result.andThen_ok, run_eqlFlat, Sem.run_pure]

/-- what a call leaves, if it leaves the old blocks alone -/
theorem heldP {P : Program} {f : Nat} {args : Array Value} {W : World} {v : Ending} (S : World → Prop) (hm : ∀ W w1, S W → Below W.heap.size W w1 → S w1)
    (h : Calls P f args W fun e w' => e = v ∧ Below W.heap.size W w') (hS : S W) : Calls P f args W fun e w' => e = v ∧ S w' :=
  h.mono fun _ _ ⟨he, hb⟩ => ⟨he, hm _ _ hS hb⟩
end Go.Proofs.YtfegdblaohhdoaaGreatDoor.Hs
namespace Go.Proofs.YtfegdblaohhdoaaGreatDoor.SameP
open Go.ChangeShapes Go.WideShapes Go.ChangeAt Go.RowKit
open Go.Proofs.YtfegdblaohhdoaaGreatDoor.Ms
open Go.Proofs.YtfegdblaohhdoaaGreatDoor.Box
open Go.Proofs.YtfegdblaohhdoaaGreatDoor.Eq
open Go.Proofs.YtfegdblaohhdoaaGreatDoor.Same
open Go.Proofs.YtfegdblaohhdoaaGreatDoor.Hs
set_option linter.unusedVariables false
set_option maxRecDepth 100000

theorem start (w : World) (m m' : M) : Bx ((w.alloc (.cells m.cells 29)).alloc (.cells m'.cells 29)) w.heap.size m ∧ Bx ((w.alloc (.cells m.cells 29)).alloc (.cells m'.cells 29)) (w.heap.size + 1) m' ∧ Below w.heap.size w ((w.alloc (.cells m.cells 29)).alloc (.cells m'.cells 29)) :=
  ⟨(Bx.new w m).old _, by have := Bx.new (w.alloc (.cells m.cells 29)) m'; rwa [alloc_size] at this, balloc (balloc (Below.refl _ _) _) _⟩

/-- What stays in a region over two messages. -/
def S2 (w : World) (a b : M) (W : World) : Prop := Bx W w.heap.size a ∧ Bx W (w.heap.size + 1) b ∧ a.In W ∧ b.In W ∧ Below w.heap.size w W
theorem S2.keep {w : World} {a b : M} (W w1 : World) (h : S2 w a b W) (hb : Below W.heap.size W w1) : S2 w a b w1 := ⟨h.1.below hb, h.2.1.below hb, h.2.2.1.below hb, h.2.2.2.1.below hb, bcall h.2.2.2.2 hb⟩

set_option maxHeartbeats 1600000 in
set_option maxRecDepth 100000 in
theorem same_any (a b : M) (w : World) (ha : a.In w) (hb : b.In w) :
    Calls Tryz.prog 63 #[.agg a.cells, .agg b.cells] w fun e w' => e = .returned (.bool (M.same a b)) ∧ Below w.heap.size w w' := by
  have PA := Lib.hid (fun W (h : S2 w a b W) => heldP (S2 w a b) S2.keep (flatten_any a W) h)
  have PB := Lib.hid (fun W (h : S2 w a b W) => heldP (S2 w a b) S2.keep (flatten_any b W) h)
  have PD := Lib.hid (fun W (h : S2 w a b W) => heldP (S2 w a b) S2.keep (dests_any a.la b.la a.lc b.lc a.ll b.ll W h.2.2.1.d h.2.2.2.1.d h.2.2.1.dl h.2.2.2.1.dl) h)
  have PS := Lib.hid (fun W (h : S2 w a b W) => heldP (S2 w a b) S2.keep (subs_any a.sa b.sa a.sc b.sc a.sl b.sl W h.2.2.1.s h.2.2.2.1.s h.2.2.1.sl h.2.2.2.1.sl) h)
  have HE := Lib.hid (show M.same a b = (M.flatE a b && (decide (a.ll = b.ll) && decide (a.sl = b.sl))) from rfl)
  obtain ⟨ba, bb, bel⟩ := start w a b
  have h0 : S2 w a b ((w.alloc (.cells a.cells 29)).alloc (.cells b.cells 29)) := ⟨ba, bb, ha.below (balloc (balloc (Below.refl _ _) _) _), hb.below (balloc (balloc (Below.refl _ _) _) _), bel⟩
  clear ba bb bel ha hb
  generalize decide (a.ll = b.ll) = D at *
  generalize decide (a.sl = b.sl) = E at *
  go_enter Tryz.func63, Tryz.ntmps63
  go_upto_region 1 with fail
  generalize (w.alloc (.cells a.cells 29)).alloc (.cells b.cells 29) = V at *
  have hV : S2 w a b V.drew := S2.keep V _ h0 (Below.refl _ _).drew
  clear h0
  refine wp_region_held_drew (S := S2 w a b) (by kernel_rfl) hV (fun hS => ?_)
  clear hV
  rcases (show M.flatE a b = false ∨ (M.flatE a b = true ∧ D = false) ∨ (M.flatE a b = true ∧ D = true) by cases M.flatE a b <;> cases D <;> simp) with hF | ⟨hF, hD⟩ | ⟨hF, hD⟩
  · subst_vars
    have HF := Lib.hid hF
    clear hF
    refine H.tk (i := 0) (v := .agg (M.cells a)) ?h0 hS ?_
    case h0 => exact fun w hw => run_loadM (x := .tmp 2) rfl rfl (hw.1)
    try simp only [Act.put, List.setIfInBounds_toArray, List.set_cons_zero, List.set_cons_succ]
    refine H.tk (i := 2) (v := .agg (M.cells b)) ?h2 hS ?_
    case h2 => exact fun w hw => run_loadM (x := .tmp 3) rfl rfl (hw.2.1)
    try simp only [Act.put, List.setIfInBounds_toArray, List.set_cons_zero, List.set_cons_succ]
    refine wpAnyH_ready (rs := [1]) (by kernel_rfl) (by simp) ?_
    refine AllReadyH.cons rfl (fun K hK => ?_) AllReadyH.nil
    go_simp
    refine (PA.out _ hS).mono ?_
    rintro e w1 ⟨rfl, hS1⟩
    refine hK.out _ _ hS1 (fun _ => ?_)
    clear hK K hS
    have hS := hS1
    clear hS1
    try simp only [Act.put, List.setIfInBounds_toArray, List.set_cons_zero, List.set_cons_succ]
    refine wpAnyH_ready (rs := [3]) (by kernel_rfl) (by simp) ?_
    refine AllReadyH.cons rfl (fun K hK => ?_) AllReadyH.nil
    go_simp
    refine (PB.out _ hS).mono ?_
    rintro e w3 ⟨rfl, hS3⟩
    refine hK.out _ _ hS3 (fun _ => ?_)
    clear hK K hS
    have hS := hS3
    clear hS3
    try simp only [Act.put, List.setIfInBounds_toArray, List.set_cons_zero, List.set_cons_succ]
    refine H.tk (i := 4) (v := .bool false) ?h4 hS ?_
    case h4 => exact fun w _ => run_eqF (x := .tmp 6) (y := .tmp 8) rfl rfl rfl HF.out
    try simp only [Act.put, List.setIfInBounds_toArray, List.set_cons_zero, List.set_cons_succ]
    refine H.tk (i := 5) (v := (.bool false)) (fun w _ => rfl) hS ?_
    try simp only [Act.put, List.setIfInBounds_toArray, List.set_cons_zero, List.set_cons_succ]
    refine H.sk (i := 6) (d := 11) hS ?_
    try simp only [Act.put, List.setIfInBounds_toArray, List.set_cons_zero, List.set_cons_succ]
    refine H.sk (i := 7) (d := 12) hS ?_
    try simp only [Act.put, List.setIfInBounds_toArray, List.set_cons_zero, List.set_cons_succ]
    refine H.sk (i := 8) (d := 13) hS ?_
    try simp only [Act.put, List.setIfInBounds_toArray, List.set_cons_zero, List.set_cons_succ]
    refine H.sk (i := 9) (d := 14) hS ?_
    try simp only [Act.put, List.setIfInBounds_toArray, List.set_cons_zero, List.set_cons_succ]
    refine H.sk (i := 10) (d := 15) hS ?_
    try simp only [Act.put, List.setIfInBounds_toArray, List.set_cons_zero, List.set_cons_succ]
    refine H.tk (i := 11) (v := (Value.bool false)) (fun w _ => rfl) hS ?_
    try simp only [Act.put, List.setIfInBounds_toArray, List.set_cons_zero, List.set_cons_succ]
    refine H.tk (i := 12) (v := (Value.bool false)) (fun w _ => rfl) hS ?_
    try simp only [Act.put, List.setIfInBounds_toArray, List.set_cons_zero, List.set_cons_succ]
    refine H.sk (i := 13) (d := 18) hS ?_
    try simp only [Act.put, List.setIfInBounds_toArray, List.set_cons_zero, List.set_cons_succ]
    refine H.sk (i := 14) (d := 19) hS ?_
    try simp only [Act.put, List.setIfInBounds_toArray, List.set_cons_zero, List.set_cons_succ]
    refine H.sk (i := 15) (d := 20) hS ?_
    try simp only [Act.put, List.setIfInBounds_toArray, List.set_cons_zero, List.set_cons_succ]
    refine H.sk (i := 16) (d := 21) hS ?_
    try simp only [Act.put, List.setIfInBounds_toArray, List.set_cons_zero, List.set_cons_succ]
    refine H.sk (i := 17) (d := 22) hS ?_
    try simp only [Act.put, List.setIfInBounds_toArray, List.set_cons_zero, List.set_cons_succ]
    refine H.tk (i := 18) (v := (Value.bool false)) (fun w _ => rfl) hS ?_
    try simp only [Act.put, List.setIfInBounds_toArray, List.set_cons_zero, List.set_cons_succ]
    refine H.tk (i := 19) (v := (Value.bool false)) (fun w _ => rfl) hS ?_
    try simp only [Act.put, List.setIfInBounds_toArray, List.set_cons_zero, List.set_cons_succ]
    refine wpAnyH_done (by kernel_rfl) ?_ _
    go_wp2
    go_ret
    exact ⟨bool_eq (by rw [HE.out, HF.out]; simp), hS.2.2.2.2⟩
  · subst_vars
    have HF := Lib.hid hF
    clear hF
    refine H.tk (i := 0) (v := .agg (M.cells a)) ?h0 hS ?_
    case h0 => exact fun w hw => run_loadM (x := .tmp 2) rfl rfl (hw.1)
    try simp only [Act.put, List.setIfInBounds_toArray, List.set_cons_zero, List.set_cons_succ]
    refine H.tk (i := 2) (v := .agg (M.cells b)) ?h2 hS ?_
    case h2 => exact fun w hw => run_loadM (x := .tmp 3) rfl rfl (hw.2.1)
    try simp only [Act.put, List.setIfInBounds_toArray, List.set_cons_zero, List.set_cons_succ]
    refine wpAnyH_ready (rs := [1]) (by kernel_rfl) (by simp) ?_
    refine AllReadyH.cons rfl (fun K hK => ?_) AllReadyH.nil
    go_simp
    refine (PA.out _ hS).mono ?_
    rintro e w1 ⟨rfl, hS1⟩
    refine hK.out _ _ hS1 (fun _ => ?_)
    clear hK K hS
    have hS := hS1
    clear hS1
    try simp only [Act.put, List.setIfInBounds_toArray, List.set_cons_zero, List.set_cons_succ]
    refine wpAnyH_ready (rs := [3]) (by kernel_rfl) (by simp) ?_
    refine AllReadyH.cons rfl (fun K hK => ?_) AllReadyH.nil
    go_simp
    refine (PB.out _ hS).mono ?_
    rintro e w3 ⟨rfl, hS3⟩
    refine hK.out _ _ hS3 (fun _ => ?_)
    clear hK K hS
    have hS := hS3
    clear hS3
    try simp only [Act.put, List.setIfInBounds_toArray, List.set_cons_zero, List.set_cons_succ]
    refine H.tk (i := 4) (v := .bool true) ?h4 hS ?_
    case h4 => exact fun w _ => run_eqF (x := .tmp 6) (y := .tmp 8) rfl rfl rfl HF.out
    try simp only [Act.put, List.setIfInBounds_toArray, List.set_cons_zero, List.set_cons_succ]
    refine H.tk (i := 5) (v := (.bool true)) (fun w _ => rfl) hS ?_
    try simp only [Act.put, List.setIfInBounds_toArray, List.set_cons_zero, List.set_cons_succ]
    refine H.tk (i := 6) (v := ?v6) ?h6 hS ?_
    case h6 => (intro w hw; go_simp; first | done | (with_reducible rfl))
    try simp only [Act.put, List.setIfInBounds_toArray, List.set_cons_zero, List.set_cons_succ]
    refine H.tk (i := 7) (v := ?v7) ?h7 hS ?_
    case h7 => (intro w hw; have c := (hw.1).cs.c21; go_simp; first | done | (with_reducible rfl))
    try simp only [Act.put, List.setIfInBounds_toArray, List.set_cons_zero, List.set_cons_succ]
    refine H.tk (i := 8) (v := ?v8) ?h8 hS ?_
    case h8 => (intro w hw; go_simp; first | done | (with_reducible rfl))
    try simp only [Act.put, List.setIfInBounds_toArray, List.set_cons_zero, List.set_cons_succ]
    refine H.tk (i := 9) (v := ?v9) ?h9 hS ?_
    case h9 => (intro w hw; have c := (hw.2.1).cs.c21; go_simp; first | done | (with_reducible rfl))
    try simp only [Act.put, List.setIfInBounds_toArray, List.set_cons_zero, List.set_cons_succ]
    refine wpAnyH_ready (rs := [10]) (by kernel_rfl) (by simp) ?_
    refine AllReadyH.cons rfl (fun K hK => ?_) AllReadyH.nil
    go_simp
    refine (PD.out _ hS).mono ?_
    rintro e w10 ⟨rfl, hS10⟩
    refine hK.out _ _ hS10 (fun _ => ?_)
    clear hK K hS
    have hS := hS10
    clear hS10
    try simp only [Act.put, List.setIfInBounds_toArray, List.set_cons_zero, List.set_cons_succ]
    refine H.tk (i := 11) (v := (.bool false)) (fun w _ => rfl) hS ?_
    try simp only [Act.put, List.setIfInBounds_toArray, List.set_cons_zero, List.set_cons_succ]
    refine H.tk (i := 12) (v := (.bool false)) (fun w _ => rfl) hS ?_
    try simp only [Act.put, List.setIfInBounds_toArray, List.set_cons_zero, List.set_cons_succ]
    refine H.sk (i := 13) (d := 18) hS ?_
    try simp only [Act.put, List.setIfInBounds_toArray, List.set_cons_zero, List.set_cons_succ]
    refine H.sk (i := 14) (d := 19) hS ?_
    try simp only [Act.put, List.setIfInBounds_toArray, List.set_cons_zero, List.set_cons_succ]
    refine H.sk (i := 15) (d := 20) hS ?_
    try simp only [Act.put, List.setIfInBounds_toArray, List.set_cons_zero, List.set_cons_succ]
    refine H.sk (i := 16) (d := 21) hS ?_
    try simp only [Act.put, List.setIfInBounds_toArray, List.set_cons_zero, List.set_cons_succ]
    refine H.sk (i := 17) (d := 22) hS ?_
    try simp only [Act.put, List.setIfInBounds_toArray, List.set_cons_zero, List.set_cons_succ]
    refine H.tk (i := 18) (v := (Value.bool false)) (fun w _ => rfl) hS ?_
    try simp only [Act.put, List.setIfInBounds_toArray, List.set_cons_zero, List.set_cons_succ]
    refine H.tk (i := 19) (v := (Value.bool false)) (fun w _ => rfl) hS ?_
    try simp only [Act.put, List.setIfInBounds_toArray, List.set_cons_zero, List.set_cons_succ]
    refine wpAnyH_done (by kernel_rfl) ?_ _
    go_wp2
    go_ret
    exact ⟨bool_eq (by rw [HE.out, HF.out]; simp), hS.2.2.2.2⟩
  · subst_vars
    have HF := Lib.hid hF
    clear hF
    refine H.tk (i := 0) (v := .agg (M.cells a)) ?h0 hS ?_
    case h0 => exact fun w hw => run_loadM (x := .tmp 2) rfl rfl (hw.1)
    try simp only [Act.put, List.setIfInBounds_toArray, List.set_cons_zero, List.set_cons_succ]
    refine H.tk (i := 2) (v := .agg (M.cells b)) ?h2 hS ?_
    case h2 => exact fun w hw => run_loadM (x := .tmp 3) rfl rfl (hw.2.1)
    try simp only [Act.put, List.setIfInBounds_toArray, List.set_cons_zero, List.set_cons_succ]
    refine wpAnyH_ready (rs := [1]) (by kernel_rfl) (by simp) ?_
    refine AllReadyH.cons rfl (fun K hK => ?_) AllReadyH.nil
    go_simp
    refine (PA.out _ hS).mono ?_
    rintro e w1 ⟨rfl, hS1⟩
    refine hK.out _ _ hS1 (fun _ => ?_)
    clear hK K hS
    have hS := hS1
    clear hS1
    try simp only [Act.put, List.setIfInBounds_toArray, List.set_cons_zero, List.set_cons_succ]
    refine wpAnyH_ready (rs := [3]) (by kernel_rfl) (by simp) ?_
    refine AllReadyH.cons rfl (fun K hK => ?_) AllReadyH.nil
    go_simp
    refine (PB.out _ hS).mono ?_
    rintro e w3 ⟨rfl, hS3⟩
    refine hK.out _ _ hS3 (fun _ => ?_)
    clear hK K hS
    have hS := hS3
    clear hS3
    try simp only [Act.put, List.setIfInBounds_toArray, List.set_cons_zero, List.set_cons_succ]
    refine H.tk (i := 4) (v := .bool true) ?h4 hS ?_
    case h4 => exact fun w _ => run_eqF (x := .tmp 6) (y := .tmp 8) rfl rfl rfl HF.out
    try simp only [Act.put, List.setIfInBounds_toArray, List.set_cons_zero, List.set_cons_succ]
    refine H.tk (i := 5) (v := (.bool true)) (fun w _ => rfl) hS ?_
    try simp only [Act.put, List.setIfInBounds_toArray, List.set_cons_zero, List.set_cons_succ]
    refine H.tk (i := 6) (v := ?v6) ?h6 hS ?_
    case h6 => (intro w hw; go_simp; first | done | (with_reducible rfl))
    try simp only [Act.put, List.setIfInBounds_toArray, List.set_cons_zero, List.set_cons_succ]
    refine H.tk (i := 7) (v := ?v7) ?h7 hS ?_
    case h7 => (intro w hw; have c := (hw.1).cs.c21; go_simp; first | done | (with_reducible rfl))
    try simp only [Act.put, List.setIfInBounds_toArray, List.set_cons_zero, List.set_cons_succ]
    refine H.tk (i := 8) (v := ?v8) ?h8 hS ?_
    case h8 => (intro w hw; go_simp; first | done | (with_reducible rfl))
    try simp only [Act.put, List.setIfInBounds_toArray, List.set_cons_zero, List.set_cons_succ]
    refine H.tk (i := 9) (v := ?v9) ?h9 hS ?_
    case h9 => (intro w hw; have c := (hw.2.1).cs.c21; go_simp; first | done | (with_reducible rfl))
    try simp only [Act.put, List.setIfInBounds_toArray, List.set_cons_zero, List.set_cons_succ]
    refine wpAnyH_ready (rs := [10]) (by kernel_rfl) (by simp) ?_
    refine AllReadyH.cons rfl (fun K hK => ?_) AllReadyH.nil
    go_simp
    refine (PD.out _ hS).mono ?_
    rintro e w10 ⟨rfl, hS10⟩
    refine hK.out _ _ hS10 (fun _ => ?_)
    clear hK K hS
    have hS := hS10
    clear hS10
    try simp only [Act.put, List.setIfInBounds_toArray, List.set_cons_zero, List.set_cons_succ]
    refine H.tk (i := 11) (v := (.bool true)) (fun w _ => rfl) hS ?_
    try simp only [Act.put, List.setIfInBounds_toArray, List.set_cons_zero, List.set_cons_succ]
    refine H.tk (i := 12) (v := (.bool true)) (fun w _ => rfl) hS ?_
    try simp only [Act.put, List.setIfInBounds_toArray, List.set_cons_zero, List.set_cons_succ]
    refine H.tk (i := 13) (v := ?v13) ?h13 hS ?_
    case h13 => (intro w hw; go_simp; first | done | (with_reducible rfl))
    try simp only [Act.put, List.setIfInBounds_toArray, List.set_cons_zero, List.set_cons_succ]
    refine H.tk (i := 14) (v := ?v14) ?h14 hS ?_
    case h14 => (intro w hw; have c := (hw.1).cs.c24; go_simp; first | done | (with_reducible rfl))
    try simp only [Act.put, List.setIfInBounds_toArray, List.set_cons_zero, List.set_cons_succ]
    refine H.tk (i := 15) (v := ?v15) ?h15 hS ?_
    case h15 => (intro w hw; go_simp; first | done | (with_reducible rfl))
    try simp only [Act.put, List.setIfInBounds_toArray, List.set_cons_zero, List.set_cons_succ]
    refine H.tk (i := 16) (v := ?v16) ?h16 hS ?_
    case h16 => (intro w hw; have c := (hw.2.1).cs.c24; go_simp; first | done | (with_reducible rfl))
    try simp only [Act.put, List.setIfInBounds_toArray, List.set_cons_zero, List.set_cons_succ]
    refine wpAnyH_ready (rs := [17]) (by kernel_rfl) (by simp) ?_
    refine AllReadyH.cons rfl (fun K hK => ?_) AllReadyH.nil
    go_simp
    refine (PS.out _ hS).mono ?_
    rintro e w17 ⟨rfl, hS17⟩
    refine hK.out _ _ hS17 (fun _ => ?_)
    clear hK K hS
    have hS := hS17
    clear hS17
    try simp only [Act.put, List.setIfInBounds_toArray, List.set_cons_zero, List.set_cons_succ]
    refine H.tk (i := 18) (v := (.bool E)) (fun w _ => rfl) hS ?_
    try simp only [Act.put, List.setIfInBounds_toArray, List.set_cons_zero, List.set_cons_succ]
    refine H.tk (i := 19) (v := (.bool E)) (fun w _ => rfl) hS ?_
    try simp only [Act.put, List.setIfInBounds_toArray, List.set_cons_zero, List.set_cons_succ]
    refine wpAnyH_done (by kernel_rfl) ?_ _
    go_wp2
    go_ret
    exact ⟨bool_eq (by rw [HE.out, HF.out]; simp), hS.2.2.2.2⟩
end Go.Proofs.YtfegdblaohhdoaaGreatDoor.SameP
