/-
  Layer 11 and the document's own: number, Get, fits and Put of entries of RIPng. Condition: texts no longer than a text may be.
-/
import Derived.Test.YthfdcmijciclkaaBk
import Derived.IntWalk
import Derived.LoopTactic
import Derived.StillTailTactics
import Derived.Deep.QuietTactic
import Derived.BigQuiet
namespace Go.Proofs.Ythfdcmijciclkaa.Rte
open Go.ChangeShapes Go.WideShapes Go.ChangeAt Go.RowKit
open Go.Proofs.Ythfdcmijciclkaa.Cur
open Go.Proofs.Ythfdcmijciclkaa.Oct
open Go.Proofs.Ythfdcmijciclkaa.Bk
set_option linter.unusedVariables false
set_option maxRecDepth 100000
set_option maxRecDepth 100000

theorem radd (s : ByteArray) (k : Nat) (h : k ≤ 6) (hk : k < s.size) :
    ((numL (s.data.toList.take k) : Nat) : Int) * 256 + (s[k].toNat : Nat) = ((numL (s.data.toList.take (k + 1)) : Nat) : Int) := by
  rw [Cur.take_snoc s k hk, numL_snoc]
  omega

set_option maxHeartbeats 800000 in
theorem rnumber (s : ByteArray) (w : World) (hs : s.size ≤ 7) :
    Calls Try.prog 44 #[.string s] w fun e w' => e = .returned (.int .i64 (numL s.data.toList)) ∧ w = w' := by
  go_enter Try.func44, Try.ntmps44
  go_wp2
  go_loop [3, 4] (fun n i => ∃ k : Nat, k ≤ s.size ∧ i = .int .i64 k ∧ n = .int .i64 (numL (s.data.toList.take k))) (fun _ i => s.size - (intOf i).toNat)
  case atStart => exact ⟨0, Nat.zero_le _, rfl, rfl⟩
  case round =>
    obtain ⟨k, hk, rfl, rfl⟩ := hrel
    by_cases hlt : k < s.size
    · have hr := Lib.hid (radd s k (by omega) hlt)
      have hb := num_lt6 s k (by omega) (by omega)
      have hc := s[k].toNat_lt
      have h7 : k < 7 := by omega
      go_wp2
      go_round
      case rel => exact ⟨k + 1, by omega, by go_num, congrArg (Value.int IntKind.i64) (by rw [← hr.out])⟩
      case measure => simp [intOf]; omega
    · go_wp2
      go_ret
      exact ⟨int_eq (by rw [List.take_of_length_le (by simp; omega)]), rfl⟩

theorem ext_list (s : ByteArray) (a b : Nat) : (s.extract a b).data.toList = (s.data.toList.drop a).take (b - a) := by
  simp [ByteArray.data_extract, List.extract_eq_take_drop]

theorem rnum_ext (s : ByteArray) (a b : Nat) (w : World) (h : b - a ≤ 7) :
    Calls Try.prog 44 #[.string (s.extract a b)] w fun e w' => e = .returned (.int .i64 (numL ((s.data.toList.drop a).take (b - a)))) ∧ w' = w := by
  rw [← ext_list]
  exact (rnumber _ _ (by simp; omega)).mono fun e w' ⟨h1, h2⟩ => ⟨h1, h2.symm⟩

theorem sl_h (s : ByteArray) (j : Int) (hi : Nat) (hj : j = hi) (h2 : hi ≤ s.size) (W : World) :
    (Instr.slice 9 (.string s) none (some (.int .i64 j)) none).run Try.prog W = .ok (.string (s.extract 0 hi)) W := by
  subst hj
  have := run_slice_string_h (P := Try.prog) (t := 9) (s := s) W Try.underlying9 .i64 (hi : Int) (by omega) (by omega)
  simpa using this

theorem sl_m (s : ByteArray) (i j : Int) (lo hi : Nat) (hi' : i = lo) (hj : j = hi) (h1 : lo ≤ hi) (h2 : hi ≤ s.size) (W : World) :
    (Instr.slice 9 (.string s) (some (.int .i64 i)) (some (.int .i64 j)) none).run Try.prog W = .ok (.string (s.extract lo hi)) W := by
  subst hi' hj
  have := run_slice_string (P := Try.prog) W 9 s .i64 .i64 (lo : Int) (hi : Int) Try.underlying9 (by omega) (by omega) (by omega)
  simpa using this

theorem sl_l (s : ByteArray) (i : Int) (lo hi : Nat) (hi' : i = lo) (h1 : lo ≤ s.size) (hs : s.size = hi) (W : World) :
    (Instr.slice 9 (.string s) (some (.int .i64 i)) none none).run Try.prog W = .ok (.string (s.extract lo hi)) W := by
  subst hi' hs
  have := run_slice_string_l (P := Try.prog) (t := 9) (s := s) W Try.underlying9 .i64 (lo : Int) (by omega) (by omega)
  simpa using this
set_option maxHeartbeats 800000 in
theorem number_any (s : ByteArray) (w : World) (hs : s.size ≤ 7) :
    Calls Try.prog 40 #[.string s] w fun e w' => e = .returned (.int .i64 (numL s.data.toList)) ∧ w = w' := by
  go_enter Try.func40, Try.ntmps40
  go_wp2
  go_loop [3, 7] (fun n i => ∃ k : Nat, k ≤ s.size ∧ i = .int .i64 k ∧ n = .int .i64 (numL (s.data.toList.take k))) (fun _ i => s.size - (intOf i).toNat)
  case atStart => exact ⟨0, Nat.zero_le _, rfl, rfl⟩
  case round =>
    obtain ⟨k, hk, rfl, rfl⟩ := hrel
    by_cases hlt : k < s.size
    · go_wp2
      go_round
      case rel => exact ⟨k + 1, by omega, by go_num, congrArg (Value.int IntKind.i64) (round_eq s k (by omega) hlt)⟩
      case measure => simp [intOf]; omega
    · go_wp2
      go_ret
      exact ⟨int_eq (by rw [List.take_of_length_le (by simp; omega)]), rfl⟩
theorem num_ext (s : ByteArray) (a b : Nat) (w : World) (h : b - a ≤ 7) :
    Calls Try.prog 40 #[.string (s.extract a b)] w fun e w' => e = .returned (.int .i64 (numL ((s.data.toList.drop a).take (b - a)))) ∧ w' = w := by
  rw [← ext_list]
  exact (number_any _ _ (by simp; omega)).mono fun e w' ⟨h1, h2⟩ => ⟨h1, h2.symm⟩

theorem one_byte (s : ByteArray) (k : Nat) (h : k < s.size) : numL ((s.data.toList.drop k).take 1) = s[k].toNat := by
  have e : s.data.toList.drop k = s[k] :: s.data.toList.drop (k + 1) := by
    rw [List.drop_eq_getElem_cons (by simpa using h)]; rfl
  rw [e]
  show numL [s[k]] = _
  simp [numL]
theorem index_one (s : ByteArray) (k : Nat) (i : Int) (hi : i = k) (h : k < s.size) (W : World) :
    (Instr.index 9 (.string s) (.int .i64 i)).run Try.prog W = .ok (.int .u8 (numL ((s.data.toList.drop k).take 1) : Nat)) W := by
  subst hi
  rw [run_index_string W 9 s .i64 (k : Int) Try.underlying9, dif_pos ⟨by omega, by omega⟩, one_byte s k h]
  rfl
theorem conv_b (s : ByteArray) (k : Nat) (W : World) :
    (convert 5 3 (.int .u8 (numL ((s.data.toList.drop k).take 1) : Nat))).run Try.prog W = .ok (.int .i64 (numL ((s.data.toList.drop k).take 1) : Nat)) W := by
  have := numL_lt ((s.data.toList.drop k).take 1)
  have h2 : ((s.data.toList.drop k).take 1).length ≤ 1 := by simp; omega
  have h3 := Nat.pow_le_pow_right (show 0 < 256 by decide) h2
  have h4 : numL ((s.data.toList.drop k).take 1) < 256 := by omega
  generalize numL ((s.data.toList.drop k).take 1) = x at *
  rw [run_convert_int W 5 3 .u8 (x : Int) (by rw [Try.underlying5]; rfl) Try.underlying3]
  have : (Try.prog.intKind 3).wrap (x : Int) = x := by
    rw [show Try.prog.intKind 3 = .i64 by kernel_rfl]
    exact IntWalk.i64_in _ (by omega)
  rw [this, show Try.prog.intKind 3 = .i64 by kernel_rfl]

/-- The entry of twenty bytes. -/
def E.of (s : ByteArray) : E := ⟨numL ((s.data.toList.drop 18).take 1), numL ((s.data.toList.drop 16).take 2), s.extract 0 16, ⟨#[]⟩, ⟨#[]⟩, numL ((s.data.toList.drop 19).take 1)⟩

theorem get_no (s : ByteArray) (w : World) (hm : s.size ≤ maxLen) (hs : s.size ≠ 20) :
    Calls Try.prog 18 #[.string s] w fun e w' => e = .returned (.tuple #[.agg E.zero.cells, .bool false]) ∧ Below w.heap.size w w' := by
  unfold maxLen at hm
  go_enter Try.func18, Try.ntmps18
  go_wp2_with (first | (refine wpList_builtK rfl 45 _ rfl E.zero.cells (by kernel_rfl) ?_) | (refine wpList_storeK (b := w.heap.size) shE rfl _ _ rfl rfl rfl (Bk.new 45 w E.zero.cells) rfl rfl (E.one E.zero) ?_))
  refine bodyPost_ret (v := .tuple #[.agg E.zero.cells, .bool false]) (results_pair (ty := 45) rfl _ _ w.heap.size _ rfl (loadVarK shE ((Bk.new 45 w E.zero.cells).put _) rfl) _ rfl) rfl ⟨rfl, below_setRow ((Below.refl w.heap.size w).alloc (Nat.le_refl _) _) (Nat.le_refl _) _⟩

set_option maxHeartbeats 1600000 in
theorem get_yes (s : ByteArray) (w : World) (hs : s.size = 20) :
    Calls Try.prog 18 #[.string s] w fun e w' => e = .returned (.tuple #[.agg (E.of s).cells, .bool true]) ∧ Below w.heap.size w w' := by
  have hm : s.size ≤ maxLen := by unfold maxLen; omega
  go_enter Try.func18, Try.ntmps18
  go_upto_region 3 with fail
  have h1 := Bk.new 45 w E.zero.cells
  have hb := (Below.refl w.heap.size w).alloc (Nat.le_refl _) (.cells E.zero.cells 45)
  change Code.wp _ _ _ _ (w.alloc (.cells E.zero.cells 45))
  generalize w.alloc _ = W at *
  have s1 := sl_h s 16 16 rfl (by omega)
  have s2 := sl_m s 16 18 16 18 rfl rfl (by omega) (by omega)
  have s3 := sl_m s 18 19 18 19 rfl rfl (by omega) (by omega)
  have s4 := sl_l s 19 19 20 rfl (by omega) hs
  clear hs
  refine wp_region_still_tail 11 (by kernel_rfl) (by kernel_rfl) ?_
  simp only [List.take_succ_cons, List.take_zero, List.drop_succ_cons, List.drop_zero]
  repeat still_step
  still_call (num_ext s 16 18 _ (by omega))
  repeat still_step
  still_call (num_ext s 18 19 _ (by omega))
  repeat still_step
  still_call (num_ext s 19 20 _ (by omega))
  repeat still_step
  refine wpStill_nil ?_
  change wpList _ _ _ _ _ W.drew
  replace h1 := h1.drew
  replace hb := hb.drew
  generalize W.drew = V at *
  clear s1 s2 s3 s4
  go_wp2_with (first | (refine wpList_builtK rfl 45 _ rfl (E.of s).cells (by kernel_rfl) ?_) | (refine wpList_storeK (b := w.heap.size) shE rfl _ _ rfl rfl rfl h1 rfl rfl (E.one (E.of s)) ?_))
  refine bodyPost_ret (v := .tuple #[.agg (E.of s).cells, .bool true]) (results_pair (ty := 45) rfl _ _ w.heap.size _ rfl (loadVarK shE (h1.put _) rfl) _ rfl) rfl ⟨rfl, below_setRow hb (Nat.le_refl _) _⟩

theorem rget_no (s : ByteArray) (w : World) (hm : s.size ≤ maxLen) (hs : s.size ≠ 20) :
    Calls Try.prog 21 #[.string s] w fun e w' => e = .returned (.tuple #[.agg E.zero.cells, .bool false]) ∧ Below w.heap.size w w' := by
  unfold maxLen at hm
  go_enter Try.func21, Try.ntmps21
  go_wp2_with (first | (refine wpList_builtK rfl 45 _ rfl E.zero.cells (by kernel_rfl) ?_) | (refine wpList_storeK (b := w.heap.size) shE rfl _ _ rfl rfl rfl (Bk.new 45 w E.zero.cells) rfl rfl (E.one E.zero) ?_))
  refine bodyPost_ret (v := .tuple #[.agg E.zero.cells, .bool false]) (results_pair (ty := 45) rfl _ _ w.heap.size _ rfl (loadVarK shE ((Bk.new 45 w E.zero.cells).put _) rfl) _ rfl) rfl ⟨rfl, below_setRow ((Below.refl w.heap.size w).alloc (Nat.le_refl _) _) (Nat.le_refl _) _⟩

set_option maxHeartbeats 1600000 in
theorem rget_yes (s : ByteArray) (w : World) (hs : s.size = 20) :
    Calls Try.prog 21 #[.string s] w fun e w' => e = .returned (.tuple #[.agg (E.of s).cells, .bool true]) ∧ Below w.heap.size w w' := by
  have hm : s.size ≤ maxLen := by unfold maxLen; omega
  go_enter Try.func21, Try.ntmps21
  go_upto_region 3 with fail
  have h1 := Bk.new 45 w E.zero.cells
  have hb := (Below.refl w.heap.size w).alloc (Nat.le_refl _) (.cells E.zero.cells 45)
  change Code.wp _ _ _ _ (w.alloc (.cells E.zero.cells 45))
  generalize w.alloc _ = W at *
  have s1 := sl_h s 16 16 rfl (by omega)
  have s2 := sl_m s 16 18 16 18 rfl rfl (by omega) (by omega)
  have s3 := index_one s 18 18 rfl (by omega)
  have s4 := index_one s 19 19 rfl (by omega)
  have s5 := conv_b s 18
  have s6 := conv_b s 19
  clear hs
  refine wp_region_still_tail 11 (by kernel_rfl) (by kernel_rfl) ?_
  simp only [List.take_succ_cons, List.take_zero, List.drop_succ_cons, List.drop_zero]
  repeat still_step
  still_call (rnum_ext s 16 18 _ (by omega))
  repeat still_step
  refine wpStill_nil ?_
  change wpList _ _ _ _ _ W.drew
  replace h1 := h1.drew
  replace hb := hb.drew
  generalize W.drew = V at *
  clear s1 s2 s3 s4 s5 s6
  go_wp2_with (first | (refine wpList_builtK rfl 45 _ rfl (E.of s).cells (by kernel_rfl) ?_) | (refine wpList_storeK (b := w.heap.size) shE rfl _ _ rfl rfl rfl h1 rfl rfl (E.one (E.of s)) ?_))
  refine bodyPost_ret (v := .tuple #[.agg (E.of s).cells, .bool true]) (results_pair (ty := 45) rfl _ _ w.heap.size _ rfl (loadVarK shE (h1.put _) rfl) _ rfl) rfl ⟨rfl, below_setRow hb (Nat.le_refl _) _⟩

/-- What a number lays: its bytes, if it fits. -/
def layN (v : Int) (n : Nat) : List UInt8 := if fitsB v n then be v.toNat n else []

theorem layN_len (v : Int) (n : Nat) : (layN v n).length ≤ n := by unfold layN; split <;> simp [be_length]

/-- What a number comes to, by the octet's Put: its bytes, or nothing. -/
theorem octet_any (v : Int) (n : Nat) (ni : Int) (hni : ni = n) (h1 : 1 ≤ n) (h7 : n ≤ 7) (w : World) :
    Calls Try.prog 55 #[.int .i64 v, .int .i64 ni] w fun e w' => e = .returned (.tuple #[.string ⟨(layN v n).toArray⟩, .bool (fitsB v n)]) ∧ Below w.heap.size w w' := by
  subst hni
  by_cases hf : fitsB v n = true
  · obtain ⟨_, _, hv0, hv1⟩ := (fitsB_iff v n).1 hf
    have hl : layN v n = be v.toNat n := by unfold layN; rw [if_pos hf]
    rw [hl, hf]
    obtain ⟨v, rfl⟩ := Int.eq_ofNat_of_zero_le hv0
    exact rput_yes v n w h1 h7 (by simpa using hv1)
  · have hf : fitsB v n = false := by simpa using hf
    have hl : layN v n = [] := by unfold layN; rw [hf]; rfl
    rw [hl, hf]
    exact rput_no v n w hf

/-- What a number comes to, by the octet's Put: its bytes, or nothing. -/
theorem oput_any (v : Int) (n : Nat) (ni : Int) (hni : ni = n) (h1 : 1 ≤ n) (h7 : n ≤ 7) (w : World) :
    Calls Try.prog 69 #[.int .i64 v, .int .i64 ni] w fun e w' => e = .returned (.tuple #[.string ⟨(layN v n).toArray⟩, .bool (fitsB v n)]) ∧ Below w.heap.size w w' := by
  subst hni
  by_cases hf : fitsB v n = true
  · obtain ⟨_, _, hv0, hv1⟩ := (fitsB_iff v n).1 hf
    have hl : layN v n = be v.toNat n := by unfold layN; rw [if_pos hf]
    rw [hl, hf]
    obtain ⟨v, rfl⟩ := Int.eq_ofNat_of_zero_le hv0
    exact put_yes v n w h1 h7 (by simpa using hv1)
  · have hf : fitsB v n = false := by simpa using hf
    have hl : layN v n = [] := by unfold layN; rw [hf]; rfl
    rw [hl, hf]
    exact put_no v n w hf

def okE (e : E) : Bool := decide (e.addr.size = 16) && decide (e.mask.size = 0) && decide (e.next.size = 0) && fitsB e.tag 2 && fitsB e.fam 1 && fitsB e.met 1
/-- The bytes of an entry. -/
def putE (e : E) : ByteArray := if okE e then e.addr ++ ByteArray.mk (layN e.tag 2).toArray ++ ByteArray.mk (layN e.fam 1).toArray ++ ByteArray.mk (layN e.met 1).toArray else ⟨#[]⟩
structure OkE (e : E) : Prop where
  (addr : e.addr.size ≤ maxLen) (mask : e.mask.size ≤ maxLen) (next : e.next.size ≤ maxLen)
theorem put_yes_eq (e : E) (h : okE e = true) : putE e = e.addr ++ ByteArray.mk (layN e.tag 2).toArray ++ ByteArray.mk (layN e.fam 1).toArray ++ ByteArray.mk (layN e.met 1).toArray := by unfold putE; rw [if_pos h]
theorem put_no_eq (e : E) (h : okE e = false) : putE e = ⟨#[]⟩ := by unfold putE; rw [h]; rfl
theorem nil_of (a : ByteArray) (h : a.size = 0) : a.toList = [] := by
  rw [ByteArray.toList_eq]
  have : a.data.toList.length = 0 := by simpa using h
  exact List.length_eq_zero_iff.1 this
theorem not_nil (a : ByteArray) (h : ¬ a.size = 0) : ¬ a.toList = [] := by
  rw [ByteArray.toList_eq]
  intro e
  apply h
  have := congrArg List.length e
  simpa using this

end Go.Proofs.Ythfdcmijciclkaa.Rte
