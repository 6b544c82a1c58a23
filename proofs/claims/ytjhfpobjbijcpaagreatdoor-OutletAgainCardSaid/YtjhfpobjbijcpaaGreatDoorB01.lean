/-
  The number that bytes make: both functions that reckon it, and the cursor's calls that take text.
  Contracts of the octet's functions and of the document's own: what each answers of any numbers and any text, and that nothing that was there is changed.
  The octet's calls that make bytes: Zeros and Put, and the document's own.
  Numbers and their bytes, for the layers of AODV: the document's Number and Of, what a number comes to, there and back. No conditions, but where they are said.
-/
import Derived.IntWalk
import Derived.LoopTactic
import Derived.Test.YtjhfpobjbijcpaaGreatDoorRows
import Derived.WalkKit
import Derived.ProofKit
import Derived.OpenShut
import Derived.ShutString
import Derived.Below
import Derived.Lib.Hide
import Derived.WalkLawsBesides
import Derived.Outline
import Derived.RegionTactic
import Derived.Deep.RegionWith
import Derived.StillTailTactics
import Derived.Deep.RegionHeld3
import Derived.Laws.IdiomStrings
import Derived.OwnWalk
import Derived.Deep.QuietTactic
import Derived.BigQuiet
namespace Go.Proofs.YtjhfpobjbijcpaaGreatDoor.Cur
open Go.ChangeShapes Go.WideShapes Go.ChangeAt Go.RowKit
set_option linter.unusedVariables false
set_option maxRecDepth 100000

def numL (l : List UInt8) : Nat := l.foldl (fun n c => n * 256 + c.toNat) 0

theorem numL_snoc (l : List UInt8) (c : UInt8) : numL (l ++ [c]) = numL l * 256 + c.toNat := by
  unfold numL; rw [List.foldl_append]; rfl

theorem numL_lt (l : List UInt8) : numL l < 256 ^ l.length := by
  suffices h : ∀ (m : Nat) (l : List UInt8), l.length = m → numL l < 256 ^ m from h _ l rfl
  intro m
  induction m with
  | zero => intro l h; have := List.length_eq_zero_iff.1 h; subst this; decide
  | succ m ih =>
    intro l h
    have hl : l ≠ [] := by intro e; subst e; simp at h
    have e := List.dropLast_concat_getLast hl
    rw [← e, numL_snoc]
    have := ih l.dropLast (by simp; omega)
    have hc := (l.getLast hl).toNat_lt
    rw [Nat.pow_succ]
    omega

theorem take_snoc (s : ByteArray) (k : Nat) (h : k < s.size) : s.data.toList.take (k + 1) = s.data.toList.take k ++ [s[k]] := by
  rw [List.take_succ_eq_append_getElem (by simpa using h)]; rfl

theorem int_eq {k : IntKind} {a b : Int} (h : a = b) : Ending.returned (.int k a) = .returned (.int k b) := by rw [h]

theorem num_lt6 (s : ByteArray) (k : Nat) (h : k ≤ 6) (hk : k ≤ s.size) : numL (s.data.toList.take k) < 281474976710656 := by
  have := numL_lt (s.data.toList.take k)
  refine Nat.lt_of_lt_of_le this ?_
  have e : (s.data.toList.take k).length ≤ 6 := by simp; omega
  exact Nat.le_trans (Nat.pow_le_pow_right (by decide) e) (by decide)

end Go.Proofs.YtjhfpobjbijcpaaGreatDoor.Cur
namespace Go.Proofs.YtjhfpobjbijcpaaGreatDoor.Oct
open Go.ChangeShapes Go.WideShapes Go.ChangeAt Go.RowKit
set_option linter.unusedVariables false
set_option maxRecDepth 100000

theorem bool_eq {a b : Bool} (h : a = b) : Ending.returned (.bool a) = .returned (.bool b) := by rw [h]

/-- the powers of 256 -/
def pw (k : Nat) : Nat := 256 ^ k
theorem pw_succ (k : Nat) : pw (k + 1) = pw k * 256 := by unfold pw; rw [Nat.pow_succ]
theorem pw_zero : pw 0 = 1 := rfl
theorem pw_le (k : Nat) (h : k ≤ 7) : pw k ≤ 72057594037927936 := by
  unfold pw; exact Nat.le_trans (Nat.pow_le_pow_right (by decide) h) (by decide)

/-- does n go into k bytes? -/
def fitsB (n k : Int) : Bool := decide (1 ≤ k) && decide (k ≤ 7) && decide (0 ≤ n) && decide (n < (pw k.toNat : Nat))

theorem fitsB_iff (n k : Int) : fitsB n k = true ↔ 1 ≤ k ∧ k ≤ 7 ∧ 0 ≤ n ∧ n < (pw k.toNat : Nat) := by
  unfold fitsB; simp [and_assoc]

/-- the bytes of n, the highest first -/
def be (n : Nat) : Nat → List UInt8
  | 0 => []
  | k + 1 => UInt8.ofNat (n / pw k) :: be n k

theorem be_length (n k : Nat) : (be n k).length = k := by
  induction k with
  | zero => rfl
  | succ k ih => simp [be, ih]

set_option maxHeartbeats 400000 in
theorem fits_any (n k : Int) (w : World) :
    Calls Tryz.prog 53 #[.int .i64 n, .int .i64 k] w fun e w' => e = .returned (.bool (fitsB n k)) ∧ w = w' := by
  by_cases h1 : k < 1
  · go_enter Tryz.func53, Tryz.ntmps53
    go_wp2
    go_ret
    exact ⟨bool_eq (by unfold fitsB; simp; omega), rfl⟩
  · by_cases h2 : 7 < k
    · go_enter Tryz.func53, Tryz.ntmps53
      go_wp2
      go_ret
      exact ⟨bool_eq (by unfold fitsB; simp; omega), rfl⟩
    · by_cases h3 : 0 ≤ n
      · have hk : k = 1 ∨ k = 2 ∨ k = 3 ∨ k = 4 ∨ k = 5 ∨ k = 6 ∨ k = 7 := by omega
        clear h1 h2
        rcases hk with rfl | rfl | rfl | rfl | rfl | rfl | rfl
        all_goals
          go_enter Tryz.func53, Tryz.ntmps53
          go_wp2
          go_ret
          exact ⟨bool_eq (by rw [Bool.eq_iff_iff, fitsB_iff]; simp [pw]; omega), rfl⟩
      · have hk : k = 1 ∨ k = 2 ∨ k = 3 ∨ k = 4 ∨ k = 5 ∨ k = 6 ∨ k = 7 := by omega
        go_enter Tryz.func53, Tryz.ntmps53
        go_wp2
        go_ret
        exact ⟨bool_eq (by unfold fitsB; simp; omega), rfl⟩

end Go.Proofs.YtjhfpobjbijcpaaGreatDoor.Oct
namespace Go.Proofs.YtjhfpobjbijcpaaGreatDoor.Oct
open Go.ChangeShapes Go.WideShapes Go.ChangeAt Go.RowKit
set_option linter.unusedVariables false
set_option maxRecDepth 100000

theorem info5 : (Tryz.prog.info? 5).map (fun i => (i.zero, i.size, i.bytes)) = some (some (.int .u8 0), 1, 1) := by kernel_rfl

/-- bytes, as the cells of a row -/
def cellsL (l : List UInt8) : List Value := l.map fun b => Value.int .u8 b.toNat

theorem conv_row (w : World) (g c : Nat) (base : Nat) (l : List UInt8) (n : Nat) (hn : l.length = n) (h : w.ownsRow base 5 1 (.slice (some ⟨g, 0, none⟩) n c) n (cellsL l)) :
    (convert 63 9 (.slice (some ⟨g, 0, none⟩) n c)).run Tryz.prog w = .ok (.string ⟨l.toArray⟩) w := by
  subst hn
  refine run_convert_bytes_back w 63 9 5 ⟨g, 0, none⟩ c l Tryz.underlying63 Tryz.underlying5 Tryz.underlying9 fun j hj => ?_
  have := h.cellAt j (by omega)
  simp [Addr.add_lit]
  rw [this]
  simp [cellsL, hj]

set_option maxHeartbeats 400000 in
theorem zeros_mid (n : Nat) (w : World) (hn : n ≤ 1048576) :
    Calls Tryz.prog 145 #[.int .i64 n] w fun e w' => e = .returned (.string ⟨(List.replicate n (0 : UInt8)).toArray⟩) ∧ Below w.heap.size w w' := by
  obtain ⟨i0, hi, hz0, hz1, hz2⟩ := info_parts info5
  go_enter Tryz.func145, Tryz.ntmps145
  go_wp2_with (at_make; refine wpList_make_full _ rfl _ _ 63 rfl w.heap.size 5 i0 (.int .u8 0) 1 Tryz.underlying63 hi hz0 hz1 _ _ _ _ n rfl rfl rfl rfl (by rw [hz2]; omega) (by unfold maxLen; omega) (by simp) ?_)
  intro w1 hown hgrow
  have hc := conv_row w1 w.heap.size n w.heap.size (List.replicate n 0) n (by simp) (by
    have e : cellsL (List.replicate n (0 : UInt8)) = (madeCells #[Value.int .u8 0] n).toList := by
      rw [toList_madeCells_one]; simp [cellsL]
    rw [e]; exact hown)
  clear hi hz0 hz1 hz2 hown
  have HG := Lib.hid hgrow
  clear hgrow
  go_wp2
  go_ret
  exact ⟨rfl, (Below.refl _ _).grown HG.out (Nat.le_refl _) (fun k hk => by cases hk)⟩

/-- n without its last j bytes -/
def sh (n j : Nat) : Nat := n / pw j
theorem sh_zero (n : Nat) : sh n 0 = n := by unfold sh; rw [pw_zero]; simp
theorem sh_succ (n j : Nat) : sh n (j + 1) = sh n j / 256 := by unfold sh; rw [pw_succ, Nat.div_div_eq_div_mul]
theorem sh_le (n j : Nat) : sh n j ≤ n := by unfold sh; exact Nat.div_le_self _ _
theorem be_succ (n k : Nat) : be n (k + 1) = UInt8.ofNat (sh n k) :: be n k := rfl

/-- the row behind j rounds -/
def rowJ (n k j : Nat) : List Value := List.replicate (k - j) (.int .u8 0) ++ cellsL (be n j)

theorem rowJ_zero (n k : Nat) : rowJ n k 0 = (madeCells #[Value.int .u8 0] k).toList := by
  rw [toList_madeCells_one]; simp [rowJ, be, cellsL]

theorem rowJ_full (n k : Nat) : rowJ n k k = cellsL (be n k) := by simp [rowJ]

theorem set_mid {α : Type} (v x : α) (r : List α) (m : Nat) : (List.replicate m v ++ v :: r).set m x = List.replicate m v ++ x :: r := by
  induction m with
  | zero => rfl
  | succ m ih => simp [List.replicate_succ, ih]

theorem ofNat_cell (q : Nat) : Value.int .u8 ((q : Int) % 256) = Value.int .u8 ((UInt8.ofNat q).toNat : Int) := by
  congr 1

theorem rowJ_set (n k j : Nat) (h : j < k) : (rowJ n k j).set (k - 1 - j) (.int .u8 ((sh n j : Int) % 256)) = rowJ n k (j + 1) := by
  obtain ⟨m, rfl⟩ : ∃ m, k = j + 1 + m := ⟨k - (j + 1), by omega⟩
  unfold rowJ
  rw [show j + 1 + m - j = m + 1 from by omega, show j + 1 + m - 1 - j = m from by omega, show j + 1 + m - (j + 1) = m from by omega]
  rw [List.replicate_succ', List.append_assoc, be_succ, ofNat_cell]
  exact set_mid _ _ _ _

set_option maxHeartbeats 800000 in
theorem put_yes (n k : Nat) (w : World) (h1 : 1 ≤ k) (h7 : k ≤ 7) (hn : n < pw k) :
    Calls Tryz.prog 32 #[.int .i64 n, .int .i64 k] w fun e w' => e = .returned (.tuple #[.string ⟨(be n k).toArray⟩, .bool true]) ∧ Below w.heap.size w w' := by
  obtain ⟨i0, hi, hz0, hz1, hz2⟩ := info_parts info5
  have hf : fitsB n k = true := by rw [fitsB_iff]; simp; omega
  have hn' : n ≤ 72057594037927936 := by have := pw_le k h7; omega
  clear hn
  go_enter Tryz.func32, Tryz.ntmps32
  go_wp2_with (first
    | (go_at_call 53; refine (fits_any _ _ _).mono ?_; rintro e w' ⟨rfl, rfl⟩)
    | (at_make; refine wpList_make_full _ rfl _ _ 63 rfl w.heap.size 5 i0 (.int .u8 0) 1 Tryz.underlying63 hi hz0 hz1 _ _ _ _ k rfl rfl rfl rfl (by rw [hz2]; omega) (by unfold maxLen; omega) (by simp) ?_))
  intro w1 hown hgrow
  have HB : Hid (Below w.heap.size w w1) := Lib.hid ((Below.refl _ _).grown hgrow (Nat.le_refl _) (fun k hk => by cases hk))
  have HO : Hid (w1.ownsRow w.heap.size 5 1 (.slice (some ⟨w.heap.size, 0, none⟩) k k) k (rowJ n k 0)) := by rw [rowJ_zero]; exact Lib.hid hown
  clear hown hgrow hi hz0 hz1 hz2 hf
  go_wp2
  go_loopw [0, 7] (fun q i wr => ∃ j : Nat, j ≤ k ∧ q = .int .i64 (sh n j : Nat) ∧ i = .int .i64 ((k : Int) - 1 - j) ∧ Hid (wr.ownsRow w.heap.size 5 1 (.slice (some ⟨w.heap.size, 0, none⟩) k k) k (rowJ n k j)) ∧ Hid (Below w.heap.size w wr))
    (fun _ i _ => (intOf i + 1).toNat)
  case atStart => exact ⟨0, Nat.zero_le _, by rw [sh_zero], by simp, HO, HB⟩
  case round =>
    obtain ⟨j, hj, rfl, rfl, HO1, HB1⟩ := hrel
    clear HO HB
    by_cases hlt : j < k
    · have hq := sh_le n j
      have hfr := (HO1.out).frozenAt (k - 1 - j)
      obtain ⟨u, hcl⟩ : ∃ u, wr.cell? ⟨w.heap.size, k - 1 - j, none⟩ = some u := by
        rw [HO1.out.cellAt _ (by omega)]
        exact ⟨_, List.getElem?_eq_getElem (by have := HO1.out.1; omega)⟩
      go_wp2
      go_roundw
      case rel =>
        refine ⟨j + 1, by omega, ?_, ?_, Lib.hid ?_, Lib.hid ?_⟩
        · rw [sh_succ]; go_num
        · go_num
        · have := (HO1.out.stored (k - 1 - j) (.int .u8 ((sh n j : Int) % 256))).1
          rw [rowJ_set n k j hlt] at this
          exact this
        · exact HB1.out.setCell (Nat.le_refl _) _
      case measure => simp [intOf]; omega
    · obtain rfl : j = k := by omega
      have hc := conv_row wr w.heap.size j w.heap.size (be n j) j (be_length n j) (by rw [← rowJ_full]; exact HO1.out)
      go_wp2
      go_ret2
      exact ⟨rfl, HB1.out⟩

theorem put_no (n k : Int) (w : World) (hf : fitsB n k = false) :
    Calls Tryz.prog 32 #[.int .i64 n, .int .i64 k] w fun e w' => e = .returned (.tuple #[.string ⟨#[]⟩, .bool false]) ∧ Below w.heap.size w w' := by
  go_enter Tryz.func32, Tryz.ntmps32
  go_wp2_with (go_at_call 53; refine (fits_any _ _ _).mono ?_; rintro e w' ⟨rfl, rfl⟩)
  go_ret2
  exact ⟨rfl, Below.refl _ _⟩

end Go.Proofs.YtjhfpobjbijcpaaGreatDoor.Oct
namespace Go.Proofs.YtjhfpobjbijcpaaGreatDoor.Nu
open Go.ChangeShapes Go.WideShapes Go.ChangeAt Go.RowKit
open Go.Proofs.YtjhfpobjbijcpaaGreatDoor.Cur
open Go.Proofs.YtjhfpobjbijcpaaGreatDoor.Oct
set_option linter.unusedVariables false
set_option maxRecDepth 100000
set_option maxRecDepth 100000

theorem radd (s : ByteArray) (k : Nat) (h : k ≤ 6) (hk : k < s.size) :
    ((numL (s.data.toList.take k) : Nat) : Int) * 256 + (s[k].toNat : Nat) = ((numL (s.data.toList.take (k + 1)) : Nat) : Int) := by
  rw [Cur.take_snoc s k hk, numL_snoc]
  omega

set_option maxHeartbeats 800000 in
theorem rnumber (s : ByteArray) (w : World) (hs : s.size ≤ 7) :
    Calls Tryz.prog 90 #[.string s] w fun e w' => e = .returned (.int .i64 (numL s.data.toList)) ∧ w = w' := by
  go_enter Tryz.func90, Tryz.ntmps90
  go_wp2
  go_loop [3, 4] (fun n i => ∃ k : Nat, k ≤ s.size ∧ i = .int .i64 k ∧ n = .int .i64 (numL (s.data.toList.take k))) (fun _ i => s.size - (intOf i).toNat)
  case atStart => exact ⟨0, Nat.zero_le _, rfl, rfl⟩
  case round =>
    obtain ⟨k, hk, rfl, rfl⟩ := hrel
    by_cases hlt : k < s.size
    · have hr := Lib.hid (radd s k (by omega) hlt)
      have hb := num_lt6 s k (by omega) (by omega)
      have hc := s[k].toNat_lt
      have h7 : k < 7 := by omega
      go_wp2
      go_round
      case rel => exact ⟨k + 1, by omega, by go_num, congrArg (Value.int IntKind.i64) (by rw [← hr.out])⟩
      case measure => simp [intOf]; omega
    · go_wp2
      go_ret
      exact ⟨int_eq (by rw [List.take_of_length_le (by simp; omega)]), rfl⟩

theorem ext_list (s : ByteArray) (a b : Nat) : (s.extract a b).data.toList = (s.data.toList.drop a).take (b - a) := by
  simp [ByteArray.data_extract, List.extract_eq_take_drop]

theorem rnum_ext (s : ByteArray) (a b : Nat) (w : World) (h : b - a ≤ 7) :
    Calls Tryz.prog 90 #[.string (s.extract a b)] w fun e w' => e = .returned (.int .i64 (numL ((s.data.toList.drop a).take (b - a)))) ∧ w' = w := by
  rw [← ext_list]
  exact (rnumber _ _ (by simp; omega)).mono fun e w' ⟨h1, h2⟩ => ⟨h1, h2.symm⟩

/-- What a number lays: its bytes, if it fits. -/
def layN (v : Int) (n : Nat) : List UInt8 := if fitsB v n then be v.toNat n else []

theorem layN_len (v : Int) (n : Nat) : (layN v n).length ≤ n := by unfold layN; split <;> simp [be_length]

/-- What a number comes to, by the octet's Put: its bytes, or nothing. -/
theorem oput_any (v : Int) (n : Nat) (ni : Int) (hni : ni = n) (h1 : 1 ≤ n) (h7 : n ≤ 7) (w : World) :
    Calls Tryz.prog 32 #[.int .i64 v, .int .i64 ni] w fun e w' => e = .returned (.tuple #[.string ⟨(layN v n).toArray⟩, .bool (fitsB v n)]) ∧ Below w.heap.size w w' := by
  subst hni
  by_cases hf : fitsB v n = true
  · obtain ⟨_, _, hv0, hv1⟩ := (fitsB_iff v n).1 hf
    have hl : layN v n = be v.toNat n := by unfold layN; rw [if_pos hf]
    rw [hl, hf]
    obtain ⟨v, rfl⟩ := Int.eq_ofNat_of_zero_le hv0
    exact put_yes v n w h1 h7 (by simpa using hv1)
  · have hf : fitsB v n = false := by simpa using hf
    have hl : layN v n = [] := by unfold layN; rw [hf]; rfl
    rw [hl, hf]
    exact put_no v n w hf

theorem numL_from (l : List UInt8) : ∀ n : Nat, l.foldl (fun n c => n * 256 + c.toNat) n = n * 256 ^ l.length + numL l := by
  induction l with
  | nil => intro n; simp [numL]
  | cons c l ih =>
    intro n
    unfold numL
    rw [List.foldl_cons, List.foldl_cons, ih, ih (0 * 256 + c.toNat), List.length_cons, Nat.pow_succ, Nat.add_mul, Nat.zero_mul, Nat.zero_add, Nat.mul_assoc, Nat.mul_comm 256]
    omega

theorem numL_cons (c : UInt8) (l : List UInt8) : numL (c :: l) = c.toNat * 256 ^ l.length + numL l := by
  unfold numL
  rw [List.foldl_cons, numL_from, Nat.zero_mul, Nat.zero_add]
  rfl

theorem numL_be (n : Nat) : ∀ k, numL (be n k) = n % pw k := by
  intro k
  induction k with
  | zero => rw [pw_zero, Nat.mod_one]; rfl
  | succ k ih =>
    rw [be, numL_cons, ih, be_length, pw_succ, Nat.mod_mul]
    show _ * pw k + _ = _
    have : (UInt8.ofNat (n / pw k)).toNat = n / pw k % 256 := by simp
    rw [this, Nat.mul_comm, Nat.add_comm]

theorem numL_inj : ∀ {a b : List UInt8}, a.length = b.length → numL a = numL b → a = b := by
  intro a
  induction a with
  | nil => intro b h _; cases b with
    | nil => rfl
    | cons _ _ => simp at h
  | cons c a ih =>
    intro b h e
    cases b with
    | nil => simp at h
    | cons d b =>
      have hl : a.length = b.length := by simpa using h
      rw [numL_cons, numL_cons, hl] at e
      have h1 := numL_lt a
      have h2 := numL_lt b
      rw [hl] at h1
      have hp : 0 < 256 ^ b.length := Nat.pow_pos (by decide)
      have hq := congrArg (· / 256 ^ b.length) e
      simp only [Nat.mul_comm _ (256 ^ b.length), Nat.mul_add_div hp, Nat.div_eq_of_lt h1, Nat.div_eq_of_lt h2, Nat.add_zero] at hq
      have hc : c = d := UInt8.toNat_inj.1 hq
      subst hc
      rw [ih hl (by omega)]

theorem be_numL (l : List UInt8) (k : Nat) (h : l.length = k) : be (numL l) k = l := by
  refine numL_inj (by rw [be_length, h]) ?_
  rw [numL_be, Nat.mod_eq_of_lt]
  have := numL_lt l
  rw [h] at this
  exact this

theorem layN_numL (l : List UInt8) (k : Nat) (h : l.length = k) (h1 : 1 ≤ k) (h7 : k ≤ 7) : fitsB (numL l) k = true ∧ layN (numL l) k = l := by
  have hf : fitsB (numL l) k = true := by
    have := numL_lt l
    rw [h] at this
    rw [fitsB_iff]
    refine ⟨by omega, by omega, by omega, ?_⟩
    simpa [pw] using (Int.ofNat_lt.2 this)
  refine ⟨hf, ?_⟩
  unfold layN
  rw [if_pos hf, Int.toNat_natCast, be_numL l k h]

theorem numL_layN (v : Int) (k : Nat) (hf : fitsB v k = true) : ((numL (layN v k) : Nat) : Int) = v ∧ (layN v k).length = k := by
  obtain ⟨_, _, h0, h1⟩ := (fitsB_iff v k).1 hf
  unfold layN
  rw [if_pos hf, numL_be, be_length]
  obtain ⟨n, rfl⟩ := Int.eq_ofNat_of_zero_le h0
  have : n < pw k := by simpa using h1
  rw [Int.toNat_natCast, Nat.mod_eq_of_lt this]
  exact ⟨rfl, rfl⟩

theorem text_eq {a b : ByteArray} (h : a.data.toList = b.data.toList) : a = b := ByteArray.ext (Array.toList_inj.1 h)

/-- A number that fits has as many bytes. -/
theorem lay_len {v : Int} {k : Nat} (hf : fitsB v k = true) : (layN v k).length = k := (numL_layN v k hf).2
theorem lay_num {v : Int} {k : Nat} (hf : fitsB v k = true) : ((numL (layN v k) : Nat) : Int) = v := (numL_layN v k hf).1
theorem num_fits (l : List UInt8) (k : Nat) (h : l.length = k) (h1 : 1 ≤ k) (h7 : k ≤ 7) : fitsB (numL l) k = true := (layN_numL l k h h1 h7).1
end Go.Proofs.YtjhfpobjbijcpaaGreatDoor.Nu
