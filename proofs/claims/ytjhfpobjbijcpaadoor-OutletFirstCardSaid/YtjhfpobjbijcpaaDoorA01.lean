/-
  The number that bytes make: both functions that reckon it, and the cursor's calls that take text.
  Contracts of the octet's functions and of the document's own: what each answers of any numbers and any text, and that nothing that was there is changed.
  The octet's calls that make bytes: Zeros and Put, and the document's own.
  Numbers and their bytes, for the layers of AODV: the document's Number and Of, what a number comes to, there and back. No conditions, but where they are said.
  What the bytes of TLVs are, which TLVs bytes are, and where they break off; a datagram's head: definitions on values alone, and facts on them. No conditions.
-/
import Derived.IntWalk
import Derived.LoopTactic
import Derived.Test.YtjhfpobjbijcpaaDoorRows
import Derived.WalkKit
import Derived.ProofKit
import Derived.OpenShut
import Derived.ShutString
import Derived.Below
import Derived.Lib.Hide
import Derived.WalkLawsBesides
import Derived.Outline
import Derived.RegionTactic
import Derived.Deep.RegionWith
import Derived.StillTailTactics
import Derived.Deep.RegionHeld3
import Derived.Laws.IdiomStrings
import Derived.OwnWalk
import Derived.Deep.QuietTactic
import Derived.BigQuiet
namespace Go.Proofs.YtjhfpobjbijcpaaDoor.Cur
open Go.ChangeShapes Go.WideShapes Go.ChangeAt Go.RowKit
set_option linter.unusedVariables false
set_option maxRecDepth 100000

def numL (l : List UInt8) : Nat := l.foldl (fun n c => n * 256 + c.toNat) 0

end Go.Proofs.YtjhfpobjbijcpaaDoor.Cur
namespace Go.Proofs.YtjhfpobjbijcpaaDoor.Oct
open Go.ChangeShapes Go.WideShapes Go.ChangeAt Go.RowKit
set_option linter.unusedVariables false
set_option maxRecDepth 100000

theorem bool_eq {a b : Bool} (h : a = b) : Ending.returned (.bool a) = .returned (.bool b) := by rw [h]

/-- the powers of 256 -/
def pw (k : Nat) : Nat := 256 ^ k
theorem pw_succ (k : Nat) : pw (k + 1) = pw k * 256 := by unfold pw; rw [Nat.pow_succ]
theorem pw_zero : pw 0 = 1 := rfl
theorem pw_le (k : Nat) (h : k ≤ 7) : pw k ≤ 72057594037927936 := by
  unfold pw; exact Nat.le_trans (Nat.pow_le_pow_right (by decide) h) (by decide)

/-- does n go into k bytes? -/
def fitsB (n k : Int) : Bool := decide (1 ≤ k) && decide (k ≤ 7) && decide (0 ≤ n) && decide (n < (pw k.toNat : Nat))

theorem fitsB_iff (n k : Int) : fitsB n k = true ↔ 1 ≤ k ∧ k ≤ 7 ∧ 0 ≤ n ∧ n < (pw k.toNat : Nat) := by
  unfold fitsB; simp [and_assoc]

/-- the bytes of n, the highest first -/
def be (n : Nat) : Nat → List UInt8
  | 0 => []
  | k + 1 => UInt8.ofNat (n / pw k) :: be n k

theorem be_length (n k : Nat) : (be n k).length = k := by
  induction k with
  | zero => rfl
  | succ k ih => simp [be, ih]

set_option maxHeartbeats 400000 in
theorem fits_any (n k : Int) (w : World) :
    Calls Tryd.prog 23 #[.int .i64 n, .int .i64 k] w fun e w' => e = .returned (.bool (fitsB n k)) ∧ w = w' := by
  by_cases h1 : k < 1
  · go_enter Tryd.func23, Tryd.ntmps23
    go_wp2
    go_ret
    exact ⟨bool_eq (by unfold fitsB; simp; omega), rfl⟩
  · by_cases h2 : 7 < k
    · go_enter Tryd.func23, Tryd.ntmps23
      go_wp2
      go_ret
      exact ⟨bool_eq (by unfold fitsB; simp; omega), rfl⟩
    · by_cases h3 : 0 ≤ n
      · have hk : k = 1 ∨ k = 2 ∨ k = 3 ∨ k = 4 ∨ k = 5 ∨ k = 6 ∨ k = 7 := by omega
        clear h1 h2
        rcases hk with rfl | rfl | rfl | rfl | rfl | rfl | rfl
        all_goals
          go_enter Tryd.func23, Tryd.ntmps23
          go_wp2
          go_ret
          exact ⟨bool_eq (by rw [Bool.eq_iff_iff, fitsB_iff]; simp [pw]; omega), rfl⟩
      · have hk : k = 1 ∨ k = 2 ∨ k = 3 ∨ k = 4 ∨ k = 5 ∨ k = 6 ∨ k = 7 := by omega
        go_enter Tryd.func23, Tryd.ntmps23
        go_wp2
        go_ret
        exact ⟨bool_eq (by unfold fitsB; simp; omega), rfl⟩

end Go.Proofs.YtjhfpobjbijcpaaDoor.Oct
namespace Go.Proofs.YtjhfpobjbijcpaaDoor.Oct
open Go.ChangeShapes Go.WideShapes Go.ChangeAt Go.RowKit
set_option linter.unusedVariables false
set_option maxRecDepth 100000

theorem info5 : (Tryd.prog.info? 5).map (fun i => (i.zero, i.size, i.bytes)) = some (some (.int .u8 0), 1, 1) := by kernel_rfl

/-- bytes, as the cells of a row -/
def cellsL (l : List UInt8) : List Value := l.map fun b => Value.int .u8 b.toNat

theorem conv_row (w : World) (g c : Nat) (base : Nat) (l : List UInt8) (n : Nat) (hn : l.length = n) (h : w.ownsRow base 5 1 (.slice (some ⟨g, 0, none⟩) n c) n (cellsL l)) :
    (convert 50 9 (.slice (some ⟨g, 0, none⟩) n c)).run Tryd.prog w = .ok (.string ⟨l.toArray⟩) w := by
  subst hn
  refine run_convert_bytes_back w 50 9 5 ⟨g, 0, none⟩ c l Tryd.underlying50 Tryd.underlying5 Tryd.underlying9 fun j hj => ?_
  have := h.cellAt j (by omega)
  simp [Addr.add_lit]
  rw [this]
  simp [cellsL, hj]

set_option maxHeartbeats 400000 in
theorem zeros_mid (n : Nat) (w : World) (hn : n ≤ 1048576) :
    Calls Tryd.prog 75 #[.int .i64 n] w fun e w' => e = .returned (.string ⟨(List.replicate n (0 : UInt8)).toArray⟩) ∧ Below w.heap.size w w' := by
  obtain ⟨i0, hi, hz0, hz1, hz2⟩ := info_parts info5
  go_enter Tryd.func75, Tryd.ntmps75
  go_wp2_with (at_make; refine wpList_make_full _ rfl _ _ 50 rfl w.heap.size 5 i0 (.int .u8 0) 1 Tryd.underlying50 hi hz0 hz1 _ _ _ _ n rfl rfl rfl rfl (by rw [hz2]; omega) (by unfold maxLen; omega) (by simp) ?_)
  intro w1 hown hgrow
  have hc := conv_row w1 w.heap.size n w.heap.size (List.replicate n 0) n (by simp) (by
    have e : cellsL (List.replicate n (0 : UInt8)) = (madeCells #[Value.int .u8 0] n).toList := by
      rw [toList_madeCells_one]; simp [cellsL]
    rw [e]; exact hown)
  clear hi hz0 hz1 hz2 hown
  have HG := Lib.hid hgrow
  clear hgrow
  go_wp2
  go_ret
  exact ⟨rfl, (Below.refl _ _).grown HG.out (Nat.le_refl _) (fun k hk => by cases hk)⟩

/-- n without its last j bytes -/
def sh (n j : Nat) : Nat := n / pw j
theorem sh_zero (n : Nat) : sh n 0 = n := by unfold sh; rw [pw_zero]; simp
theorem sh_succ (n j : Nat) : sh n (j + 1) = sh n j / 256 := by unfold sh; rw [pw_succ, Nat.div_div_eq_div_mul]
theorem sh_le (n j : Nat) : sh n j ≤ n := by unfold sh; exact Nat.div_le_self _ _
theorem be_succ (n k : Nat) : be n (k + 1) = UInt8.ofNat (sh n k) :: be n k := rfl

/-- the row behind j rounds -/
def rowJ (n k j : Nat) : List Value := List.replicate (k - j) (.int .u8 0) ++ cellsL (be n j)

theorem rowJ_zero (n k : Nat) : rowJ n k 0 = (madeCells #[Value.int .u8 0] k).toList := by
  rw [toList_madeCells_one]; simp [rowJ, be, cellsL]

theorem rowJ_full (n k : Nat) : rowJ n k k = cellsL (be n k) := by simp [rowJ]

theorem set_mid {α : Type} (v x : α) (r : List α) (m : Nat) : (List.replicate m v ++ v :: r).set m x = List.replicate m v ++ x :: r := by
  induction m with
  | zero => rfl
  | succ m ih => simp [List.replicate_succ, ih]

theorem ofNat_cell (q : Nat) : Value.int .u8 ((q : Int) % 256) = Value.int .u8 ((UInt8.ofNat q).toNat : Int) := by
  congr 1

theorem rowJ_set (n k j : Nat) (h : j < k) : (rowJ n k j).set (k - 1 - j) (.int .u8 ((sh n j : Int) % 256)) = rowJ n k (j + 1) := by
  obtain ⟨m, rfl⟩ : ∃ m, k = j + 1 + m := ⟨k - (j + 1), by omega⟩
  unfold rowJ
  rw [show j + 1 + m - j = m + 1 from by omega, show j + 1 + m - 1 - j = m from by omega, show j + 1 + m - (j + 1) = m from by omega]
  rw [List.replicate_succ', List.append_assoc, be_succ, ofNat_cell]
  exact set_mid _ _ _ _

set_option maxHeartbeats 800000 in
theorem put_yes (n k : Nat) (w : World) (h1 : 1 ≤ k) (h7 : k ≤ 7) (hn : n < pw k) :
    Calls Tryd.prog 18 #[.int .i64 n, .int .i64 k] w fun e w' => e = .returned (.tuple #[.string ⟨(be n k).toArray⟩, .bool true]) ∧ Below w.heap.size w w' := by
  obtain ⟨i0, hi, hz0, hz1, hz2⟩ := info_parts info5
  have hf : fitsB n k = true := by rw [fitsB_iff]; simp; omega
  have hn' : n ≤ 72057594037927936 := by have := pw_le k h7; omega
  clear hn
  go_enter Tryd.func18, Tryd.ntmps18
  go_wp2_with (first
    | (go_at_call 23; refine (fits_any _ _ _).mono ?_; rintro e w' ⟨rfl, rfl⟩)
    | (at_make; refine wpList_make_full _ rfl _ _ 50 rfl w.heap.size 5 i0 (.int .u8 0) 1 Tryd.underlying50 hi hz0 hz1 _ _ _ _ k rfl rfl rfl rfl (by rw [hz2]; omega) (by unfold maxLen; omega) (by simp) ?_))
  intro w1 hown hgrow
  have HB : Hid (Below w.heap.size w w1) := Lib.hid ((Below.refl _ _).grown hgrow (Nat.le_refl _) (fun k hk => by cases hk))
  have HO : Hid (w1.ownsRow w.heap.size 5 1 (.slice (some ⟨w.heap.size, 0, none⟩) k k) k (rowJ n k 0)) := by rw [rowJ_zero]; exact Lib.hid hown
  clear hown hgrow hi hz0 hz1 hz2 hf
  go_wp2
  go_loopw [0, 7] (fun q i wr => ∃ j : Nat, j ≤ k ∧ q = .int .i64 (sh n j : Nat) ∧ i = .int .i64 ((k : Int) - 1 - j) ∧ Hid (wr.ownsRow w.heap.size 5 1 (.slice (some ⟨w.heap.size, 0, none⟩) k k) k (rowJ n k j)) ∧ Hid (Below w.heap.size w wr))
    (fun _ i _ => (intOf i + 1).toNat)
  case atStart => exact ⟨0, Nat.zero_le _, by rw [sh_zero], by simp, HO, HB⟩
  case round =>
    obtain ⟨j, hj, rfl, rfl, HO1, HB1⟩ := hrel
    clear HO HB
    by_cases hlt : j < k
    · have hq := sh_le n j
      have hfr := (HO1.out).frozenAt (k - 1 - j)
      obtain ⟨u, hcl⟩ : ∃ u, wr.cell? ⟨w.heap.size, k - 1 - j, none⟩ = some u := by
        rw [HO1.out.cellAt _ (by omega)]
        exact ⟨_, List.getElem?_eq_getElem (by have := HO1.out.1; omega)⟩
      go_wp2
      go_roundw
      case rel =>
        refine ⟨j + 1, by omega, ?_, ?_, Lib.hid ?_, Lib.hid ?_⟩
        · rw [sh_succ]; go_num
        · go_num
        · have := (HO1.out.stored (k - 1 - j) (.int .u8 ((sh n j : Int) % 256))).1
          rw [rowJ_set n k j hlt] at this
          exact this
        · exact HB1.out.setCell (Nat.le_refl _) _
      case measure => simp [intOf]; omega
    · obtain rfl : j = k := by omega
      have hc := conv_row wr w.heap.size j w.heap.size (be n j) j (be_length n j) (by rw [← rowJ_full]; exact HO1.out)
      go_wp2
      go_ret2
      exact ⟨rfl, HB1.out⟩

theorem put_no (n k : Int) (w : World) (hf : fitsB n k = false) :
    Calls Tryd.prog 18 #[.int .i64 n, .int .i64 k] w fun e w' => e = .returned (.tuple #[.string ⟨#[]⟩, .bool false]) ∧ Below w.heap.size w w' := by
  go_enter Tryd.func18, Tryd.ntmps18
  go_wp2_with (go_at_call 23; refine (fits_any _ _ _).mono ?_; rintro e w' ⟨rfl, rfl⟩)
  go_ret2
  exact ⟨rfl, Below.refl _ _⟩

end Go.Proofs.YtjhfpobjbijcpaaDoor.Oct
namespace Go.Proofs.YtjhfpobjbijcpaaDoor.Nu
open Go.ChangeShapes Go.WideShapes Go.ChangeAt Go.RowKit
open Go.Proofs.YtjhfpobjbijcpaaDoor.Cur
open Go.Proofs.YtjhfpobjbijcpaaDoor.Oct
set_option linter.unusedVariables false
set_option maxRecDepth 100000
set_option maxRecDepth 100000

theorem ext_list (s : ByteArray) (a b : Nat) : (s.extract a b).data.toList = (s.data.toList.drop a).take (b - a) := by
  simp [ByteArray.data_extract, List.extract_eq_take_drop]

/-- What a number lays: its bytes, if it fits. -/
def layN (v : Int) (n : Nat) : List UInt8 := if fitsB v n then be v.toNat n else []

theorem layN_len (v : Int) (n : Nat) : (layN v n).length ≤ n := by unfold layN; split <;> simp [be_length]

/-- What a number comes to, by the octet's Put: its bytes, or nothing. -/
theorem oput_any (v : Int) (n : Nat) (ni : Int) (hni : ni = n) (h1 : 1 ≤ n) (h7 : n ≤ 7) (w : World) :
    Calls Tryd.prog 18 #[.int .i64 v, .int .i64 ni] w fun e w' => e = .returned (.tuple #[.string ⟨(layN v n).toArray⟩, .bool (fitsB v n)]) ∧ Below w.heap.size w w' := by
  subst hni
  by_cases hf : fitsB v n = true
  · obtain ⟨_, _, hv0, hv1⟩ := (fitsB_iff v n).1 hf
    have hl : layN v n = be v.toNat n := by unfold layN; rw [if_pos hf]
    rw [hl, hf]
    obtain ⟨v, rfl⟩ := Int.eq_ofNat_of_zero_le hv0
    exact put_yes v n w h1 h7 (by simpa using hv1)
  · have hf : fitsB v n = false := by simpa using hf
    have hl : layN v n = [] := by unfold layN; rw [hf]; rfl
    rw [hl, hf]
    exact put_no v n w hf

theorem numL_from (l : List UInt8) : ∀ n : Nat, l.foldl (fun n c => n * 256 + c.toNat) n = n * 256 ^ l.length + numL l := by
  induction l with
  | nil => intro n; simp [numL]
  | cons c l ih =>
    intro n
    unfold numL
    rw [List.foldl_cons, List.foldl_cons, ih, ih (0 * 256 + c.toNat), List.length_cons, Nat.pow_succ, Nat.add_mul, Nat.zero_mul, Nat.zero_add, Nat.mul_assoc, Nat.mul_comm 256]
    omega

theorem numL_cons (c : UInt8) (l : List UInt8) : numL (c :: l) = c.toNat * 256 ^ l.length + numL l := by
  unfold numL
  rw [List.foldl_cons, numL_from, Nat.zero_mul, Nat.zero_add]
  rfl

theorem numL_be (n : Nat) : ∀ k, numL (be n k) = n % pw k := by
  intro k
  induction k with
  | zero => rw [pw_zero, Nat.mod_one]; rfl
  | succ k ih =>
    rw [be, numL_cons, ih, be_length, pw_succ, Nat.mod_mul]
    show _ * pw k + _ = _
    have : (UInt8.ofNat (n / pw k)).toNat = n / pw k % 256 := by simp
    rw [this, Nat.mul_comm, Nat.add_comm]

theorem numL_layN (v : Int) (k : Nat) (hf : fitsB v k = true) : ((numL (layN v k) : Nat) : Int) = v ∧ (layN v k).length = k := by
  obtain ⟨_, _, h0, h1⟩ := (fitsB_iff v k).1 hf
  unfold layN
  rw [if_pos hf, numL_be, be_length]
  obtain ⟨n, rfl⟩ := Int.eq_ofNat_of_zero_le h0
  have : n < pw k := by simpa using h1
  rw [Int.toNat_natCast, Nat.mod_eq_of_lt this]
  exact ⟨rfl, rfl⟩

theorem text_eq {a b : ByteArray} (h : a.data.toList = b.data.toList) : a = b := ByteArray.ext (Array.toList_inj.1 h)

/-- A number that fits has as many bytes. -/
theorem lay_len {v : Int} {k : Nat} (hf : fitsB v k = true) : (layN v k).length = k := (numL_layN v k hf).2
theorem lay_num {v : Int} {k : Nat} (hf : fitsB v k = true) : ((numL (layN v k) : Nat) : Int) = v := (numL_layN v k hf).1
end Go.Proofs.YtjhfpobjbijcpaaDoor.Nu
namespace Go.Proofs.YtjhfpobjbijcpaaDoor.F1
open Go.ChangeShapes Go.WideShapes Go.ChangeAt Go.RowKit
open Go.Proofs.YtjhfpobjbijcpaaDoor.Cur (numL)
open Go.Proofs.YtjhfpobjbijcpaaDoor.Nu
set_option linter.unusedVariables false
set_option maxRecDepth 100000
set_option maxRecDepth 100000

/-- The i-th byte. -/
def bt (b : ByteArray) (i : Nat) : Int := ((b.data.toList.getD i 0).toNat : Int)
theorem bt_eq (b : ByteArray) (i : Nat) (h : i < b.size) : (b[i].toNat : Int) = bt b i := by
  unfold bt
  rw [List.getD_eq_getElem?_getD, List.getElem?_eq_getElem (by simpa using h)]
  rfl
theorem bt_nn (b : ByteArray) (i : Nat) : 0 ≤ bt b i := Int.natCast_nonneg _
theorem bt_lt (b : ByteArray) (i : Nat) : bt b i < 256 := by
  unfold bt
  have := UInt8.toNat_lt (b.data.toList.getD i 0)
  omega
theorem bt_at {s : ByteArray} {a b : List UInt8} {t : UInt8} {p : Nat} (h : s.data.toList = a ++ t :: b) (hp : a.length = p) : bt s p = (t.toNat : Int) := by
  subst hp
  unfold bt
  rw [h, List.getD_eq_getElem?_getD, List.getElem?_append_right (Nat.le_refl _), Nat.sub_self]
  rfl
theorem num_two (s : ByteArray) (p : Nat) (h : p + 1 < s.size) : ((numL ((s.data.toList.drop p).take 2) : Nat) : Int) = 256 * bt s p + bt s (p + 1) := by
  have hp : p < s.data.toList.length := by simp; omega
  have hq : p + 1 < s.data.toList.length := by simpa using h
  rw [← bt_eq s p (by omega), ← bt_eq s (p + 1) h, List.drop_eq_getElem_cons hp, List.drop_eq_getElem_cons hq]
  show (((0 * 256 + (s.data.toList[p]).toNat) * 256 + (s.data.toList[p + 1]).toNat : Nat) : Int) = _
  rw [Nat.zero_mul, Nat.zero_add]
  have e1 : s.data.toList[p] = s[p] := rfl
  have e2 : s.data.toList[p + 1] = s[p + 1] := rfl
  rw [e1, e2]
  push_cast
  omega

/-- A TLV: its data and its type; and with its place. -/
abbrev El := ByteArray × Int
abbrev T := Int × El
/-- A TLV's bytes. -/
def enc1 (x : El) : List UInt8 := if x.2 = 0 then [0] else UInt8.ofNat x.2.toNat :: UInt8.ofNat x.1.size :: x.1.data.toList
/-- The bytes of TLVs. -/
def encT (l : List El) : List UInt8 := l.flatMap enc1
def ok1 (x : El) : Prop := 0 ≤ x.2 ∧ x.2 ≤ 255 ∧ x.1.size ≤ 255 ∧ (x.2 = 0 → x.1 = ⟨#[]⟩)
def okT (l : List El) : Prop := ∀ x ∈ l, ok1 x
theorem okT_nil : okT [] := fun x hx => absurd hx (by simp)
theorem okT_append {a b : List El} (h : okT a) (hb : okT b) : okT (a ++ b) := fun y hy => by
  rcases List.mem_append.1 hy with h1 | h1
  · exact h y h1
  · exact hb y h1
theorem okT_cons {l : List El} {x : El} (h : okT (x :: l)) : ok1 x ∧ okT l := ⟨h x (by simp), fun y hy => h y (by simp [hy])⟩
theorem encT_nil : encT [] = [] := rfl
theorem encT_cons (x : El) (l : List El) : encT (x :: l) = enc1 x ++ encT l := by simp [encT]
theorem encT_append (a b : List El) : encT (a ++ b) = encT a ++ encT b := by simp [encT]
theorem encT_snoc (l : List El) (x : El) : encT (l ++ [x]) = encT l ++ enc1 x := by simp [encT]
theorem enc1_len (x : El) : (enc1 x).length = if x.2 = 0 then 1 else 2 + x.1.size := by
  unfold enc1
  split
  · rfl
  · simp; omega
theorem enc1_pos (x : El) : 1 ≤ (enc1 x).length := by rw [enc1_len]; split <;> omega
/-- The TLV with which bytes begin, and what is behind it. -/
def cut1 : List UInt8 → Option (El × List UInt8)
  | [] => none
  | t :: r => if t.toNat = 0 then some ((⟨#[]⟩, 0), r) else
    match r with
    | [] => none
    | n :: r => if n.toNat ≤ r.length then some ((⟨(r.take n.toNat).toArray⟩, (t.toNat : Int)), r.drop n.toNat) else none
theorem cut1_zero (t : UInt8) (r : List UInt8) (h : t.toNat = 0) : cut1 (t :: r) = some ((⟨#[]⟩, 0), r) := by unfold cut1; simp [h]
theorem cut1_lone (t : UInt8) (h : ¬ t.toNat = 0) : cut1 [t] = none := by unfold cut1; simp [h]
theorem cut1_two (t n : UInt8) (r : List UInt8) (h : ¬ t.toNat = 0) : cut1 (t :: n :: r) = if n.toNat ≤ r.length then some ((⟨(r.take n.toNat).toArray⟩, (t.toNat : Int)), r.drop n.toNat) else none := by
  unfold cut1; simp only [h, if_false]
theorem cut1_some {r r' : List UInt8} {x : El} (h : cut1 r = some (x, r')) : ok1 x ∧ r = enc1 x ++ r' := by
  match r, h with
  | t :: r, h =>
    by_cases ht : t.toNat = 0
    · rw [cut1_zero t r ht] at h
      simp only [Option.some.injEq, Prod.mk.injEq] at h
      obtain ⟨rfl, rfl⟩ := h
      have : t = 0 := UInt8.toNat_inj.1 ht
      subst this
      exact ⟨⟨by simp, by simp, by show (0 : Nat) ≤ 255; omega, fun _ => rfl⟩, rfl⟩
    · match r, h with
      | [], h => rw [cut1_lone t ht] at h; cases h
      | n :: r, h =>
        rw [cut1_two t n r ht] at h
        by_cases hn : n.toNat ≤ r.length
        · rw [if_pos hn] at h
          simp only [Option.some.injEq, Prod.mk.injEq] at h
          obtain ⟨rfl, rfl⟩ := h
          have hs : (⟨(r.take n.toNat).toArray⟩ : ByteArray).size = n.toNat := by show (r.take n.toNat).toArray.size = _; rw [List.size_toArray, List.length_take]; omega
          have ht' := UInt8.toNat_lt t
          have hn' := UInt8.toNat_lt n
          refine ⟨⟨by simp only []; omega, by simp only []; omega, by simp only []; rw [hs]; omega, by simp only []; omega⟩, ?_⟩
          unfold enc1
          simp only [hs]
          rw [if_neg (by omega)]
          simp
        · rw [if_neg hn] at h; cases h
theorem cut1_enc {x : El} (h : ok1 x) (r : List UInt8) : cut1 (enc1 x ++ r) = some (x, r) := by
  obtain ⟨⟨d⟩, t⟩ := x
  obtain ⟨h0, h1, h2, h3⟩ := h
  change d.size ≤ 255 at h2
  simp only [] at h0 h1 h3
  unfold enc1
  by_cases ht : t = 0
  · subst ht
    rw [if_pos rfl, h3 rfl]
    rfl
  · rw [if_neg ht]
    have e1 : (UInt8.ofNat t.toNat).toNat = t.toNat := by rw [UInt8.toNat_ofNat']; omega
    have e2 : (UInt8.ofNat d.size).toNat = d.size := by rw [UInt8.toNat_ofNat']; omega
    show cut1 (UInt8.ofNat t.toNat :: UInt8.ofNat d.size :: (d.toList ++ r)) = _
    rw [cut1_two _ _ _ (by rw [e1]; omega), e2, if_pos (by simp), e1]
    have : ((t.toNat : Nat) : Int) = t := by omega
    rw [this, List.take_left' (by simp), List.drop_left' (by simp)]

theorem all_bytes : ∀ (n : Nat) (s : List UInt8), s.length ≤ n → ∃ l r, okT l ∧ s = encT l ++ r ∧ cut1 r = none
  | 0, s, h => ⟨[], s, okT_nil, rfl, by rw [List.length_eq_zero_iff.1 (Nat.le_zero.1 h)]; rfl⟩
  | n + 1, s, h => by
    cases hc : cut1 s with
    | none => exact ⟨[], s, okT_nil, rfl, hc⟩
    | some p =>
      obtain ⟨x, r'⟩ := p
      obtain ⟨ho, he⟩ := cut1_some hc
      have hl : r'.length ≤ n := by
        have := congrArg List.length he
        rw [List.length_append] at this
        have := enc1_pos x
        omega
      obtain ⟨l, r, h1, h2, h3⟩ := all_bytes n r' hl
      refine ⟨x :: l, r, fun y hy => ?_, by rw [he, encT_cons, h2, List.append_assoc], h3⟩
      rcases List.mem_cons.1 hy with rfl | hy
      · exact ho
      · exact h1 y hy
theorem enc_inj {r r' : List UInt8} (hr : cut1 r = none) (hr' : cut1 r' = none) : ∀ {l l' : List El}, okT l → okT l' → encT l ++ r = encT l' ++ r' → l = l' ∧ r = r'
  | [], [], _, _, h => ⟨rfl, by simpa [encT] using h⟩
  | [], x :: l', _, h', h => by
    rw [encT_nil, List.nil_append, encT_cons, List.append_assoc] at h
    rw [h, cut1_enc (okT_cons h').1] at hr
    cases hr
  | x :: l, [], h', _, h => by
    rw [encT_nil, List.nil_append, encT_cons, List.append_assoc] at h
    rw [← h, cut1_enc (okT_cons h').1] at hr'
    cases hr'
  | x :: l, y :: l', h1, h2, h => by
    rw [encT_cons, encT_cons, List.append_assoc, List.append_assoc] at h
    have e := congrArg cut1 h
    rw [cut1_enc (okT_cons h1).1, cut1_enc (okT_cons h2).1] at e
    simp only [Option.some.injEq, Prod.mk.injEq] at e
    obtain ⟨rfl, e⟩ := e
    obtain ⟨rfl, rfl⟩ := enc_inj hr hr' (okT_cons h1).2 (okT_cons h2).2 e
    exact ⟨rfl, rfl⟩

/-- TLVs, each with its place, the first at p. -/
def placed (p : Int) : List El → List T
  | [] => []
  | x :: l => (p, x) :: placed (p + ((enc1 x).length : Int)) l
theorem placed_append : ∀ (a b : List El) (p : Int), placed p (a ++ b) = placed p a ++ placed (p + ((encT a).length : Int)) b
  | [], b, p => by simp [placed, encT]
  | x :: a, b, p => by
    rw [List.cons_append, placed, placed, placed_append, encT_cons, List.length_append, List.cons_append]
    congr 3
    push_cast
    omega
/-- The TLVs whose bytes these are, 0 and no error; or none, the place of the first that isn't all there, and the error. -/
def IsT (base : Int) (s : ByteArray) (o : List T × Int × Int) : Prop :=
  ∃ l r, okT l ∧ s.data.toList = encT l ++ r ∧ cut1 r = none ∧ o = if r = [] then (placed base l, 0, 0) else ([], base + ((encT l).length : Int), 2)
theorem isT_some (base : Int) (s : ByteArray) : ∃ o, IsT base s o := by
  obtain ⟨l, r, h1, h2, h3⟩ := all_bytes _ s.data.toList (Nat.le_refl _)
  exact ⟨_, l, r, h1, h2, h3, rfl⟩
theorem isT_one {base : Int} {s : ByteArray} {o o' : List T × Int × Int} (h : IsT base s o) (h' : IsT base s o') : o = o' := by
  obtain ⟨l, r, h1, h2, h3, rfl⟩ := h
  obtain ⟨l', r', h1', h2', h3', rfl⟩ := h'
  rw [h2] at h2'
  obtain ⟨rfl, rfl⟩ := enc_inj h3 h3' h1 h1' h2'
  rfl
noncomputable def outT (base : Int) (s : ByteArray) : List T × Int × Int := (isT_some base s).choose
theorem out_is (base : Int) (s : ByteArray) : IsT base s (outT base s) := (isT_some base s).choose_spec
theorem out_of {base : Int} {s : ByteArray} {o : List T × Int × Int} (h : IsT base s o) : outT base s = o := isT_one (out_is base s) h
theorem out_yes {base : Int} {s : ByteArray} {l : List El} (ho : okT l) (hs : s.data.toList = encT l) : outT base s = (placed base l, 0, 0) :=
  out_of ⟨l, [], ho, by rw [hs, List.append_nil], rfl, by rw [if_pos rfl]⟩
/-- The first fault of a datagram's head, and where it is; none. -/
def head (b : ByteArray) : Option (Int × Int) :=
  if 65535 < b.size then some (65535, 10) else if b.size < 4 then some ((b.size : Int), 2) else if ¬ bt b 0 = 42 then some (0, 4) else if ¬ bt b 1 = 2 then some (1, 4)
  else if (b.size : Int) < 4 + (256 * bt b 2 + bt b 3) then some ((b.size : Int), 2) else none
def bodyN (b : ByteArray) : Nat := (256 * bt b 2 + bt b 3).toNat
theorem bodyN_eq (b : ByteArray) : (bodyN b : Int) = 256 * bt b 2 + bt b 3 := by
  unfold bodyN
  have := bt_nn b 2
  have := bt_nn b 3
  omega
/-- The body, its place and the error. -/
def outB (b : ByteArray) : ByteArray × Int × Int := match head b with
  | some (i, e) => (⟨#[]⟩, i, e)
  | none => (b.extract 4 (4 + bodyN b), 0, 0)
def trail (b : ByteArray) : ByteArray := b.extract (4 + bodyN b) b.size
/-- The bytes of a datagram of that body. -/
def wrapL (s : ByteArray) : List UInt8 := 42 :: 2 :: (layN (s.size : Int) 2 ++ s.data.toList)
def wrap (s : ByteArray) : ByteArray := if s.size ≤ 65531 then ⟨(wrapL s).toArray⟩ else ⟨#[]⟩
theorem fits2 {n : Nat} (h : n ≤ 65535) : Oct.fitsB (n : Int) 2 = true := by
  rw [Oct.fitsB_iff]
  refine ⟨by omega, by omega, by omega, ?_⟩
  show (n : Int) < ((256 ^ 2 : Nat) : Int)
  omega
theorem head_yes {b : ByteArray} (h1 : b.size ≤ 65535) (h2 : 4 ≤ b.size) (h3 : bt b 0 = 42) (h4 : bt b 1 = 2) (h5 : 4 + bodyN b ≤ b.size) : head b = none := by
  have e := bodyN_eq b
  unfold head
  rw [if_neg (by omega), if_neg (by omega), if_neg (by omega), if_neg (by omega), if_neg (by omega)]
theorem wrap_size {s : ByteArray} (h : s.size ≤ 65531) : (wrap s).size = 4 + s.size := by
  unfold wrap
  rw [if_pos h]
  show (wrapL s).toArray.size = _
  unfold wrapL
  rw [List.size_toArray]
  simp only [List.length_cons, List.length_append, lay_len (fits2 (n := s.size) (by omega))]
  have : s.data.toList.length = s.size := by simp
  omega
/-- A body comes back of its datagram, and what is behind it is the trailer. -/
theorem wrap_back {s t : ByteArray} (h : 4 + s.size + t.size ≤ 65535) : outB (wrap s ++ t) = (s, 0, 0) ∧ trail (wrap s ++ t) = t ∧ head (wrap s ++ t) = none := by
  have hs : s.size ≤ 65531 := by omega
  have hz : (wrap s ++ t).size = 4 + s.size + t.size := by rw [ByteArray.size_append, wrap_size hs]
  have hl : (wrap s ++ t).data.toList = 42 :: 2 :: (layN (s.size : Int) 2 ++ (s.data.toList ++ t.data.toList)) := by
    rw [ByteArray.data_append, Array.toList_append]
    unfold wrap
    rw [if_pos hs]
    simp [wrapL]
  have hf := fits2 (n := s.size) (by omega)
  have hlay := lay_len hf
  have h0 : bt (wrap s ++ t) 0 = 42 := bt_at (a := []) hl rfl
  have h1 : bt (wrap s ++ t) 1 = 2 := bt_at (a := [42]) hl rfl
  have hb : bodyN (wrap s ++ t) = s.size := by
    have e := bodyN_eq (wrap s ++ t)
    have n := num_two (wrap s ++ t) 2 (by omega)
    have e2 : ((wrap s ++ t).data.toList.drop 2).take 2 = layN (s.size : Int) 2 := by
      rw [hl]
      show (layN (s.size : Int) 2 ++ (s.data.toList ++ t.data.toList)).take 2 = _
      exact List.take_left' hlay
    rw [e2, lay_num hf] at n
    simp only [show 2 + 1 = 3 from rfl] at n
    omega
  have hh := head_yes (b := wrap s ++ t) (by omega) (by omega) h0 h1 (by omega)
  have hw : (wrap s ++ t).data.toList = (42 :: 2 :: layN (s.size : Int) 2) ++ (s.data.toList ++ t.data.toList) := by rw [hl]; simp
  have h4 : (42 :: 2 :: layN (s.size : Int) 2).length = 4 := by rw [List.length_cons, List.length_cons, hlay]
  refine ⟨?_, ?_, hh⟩
  · unfold outB
    rw [hh, hb]
    simp only []
    rw [text_eq (a := (wrap s ++ t).extract 4 (4 + s.size)) (b := s) ?_]
    rw [ext_list, hw, List.drop_left' h4, Nat.add_sub_cancel_left]
    exact List.take_left' (by simp)
  · unfold trail
    rw [hb, hz]
    refine text_eq ?_
    rw [ext_list, hw, ← List.append_assoc, List.drop_left' (by rw [List.length_append, h4]; simp), List.take_of_length_le (by simp)]

/-- The bytes of a TLV, and whether it has them. -/
def putB (t : Int) (d : ByteArray) : Bool := decide (1 ≤ t) && decide (t ≤ 255) && decide (d.size ≤ 255)
def putO (t : Int) (d : ByteArray) : ByteArray := if putB t d = true then ⟨(UInt8.ofNat t.toNat :: UInt8.ofNat d.size :: d.data.toList).toArray⟩ else ⟨#[]⟩
theorem put_ok {x : El} (h : ok1 x) (h0 : ¬ x.2 = 0) : putB x.2 x.1 = true ∧ putO x.2 x.1 = ⟨(enc1 x).toArray⟩ := by
  obtain ⟨a, b, c, _⟩ := h
  have e : putB x.2 x.1 = true := by unfold putB; simp; omega
  refine ⟨e, ?_⟩
  unfold putO enc1
  rw [if_pos e, if_neg h0]
end Go.Proofs.YtjhfpobjbijcpaaDoor.F1
