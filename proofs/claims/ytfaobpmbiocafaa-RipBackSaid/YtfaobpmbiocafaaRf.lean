/-
  The document's own: Number, Get and Put. Condition: texts no longer than a text may be.
-/
import Derived.Test.YtfaobpmbiocafaaWt
import Derived.Deep.QuietTactic
import Derived.BigQuiet
namespace Go.Proofs.Ytfaobpmbiocafaa.Ent
open Go.ChangeShapes Go.WideShapes Go.ChangeAt Go.RowKit
open Go.Proofs.Ytfaobpmbiocafaa.Cur
open Go.Proofs.Ytfaobpmbiocafaa.Oct
open Go.Proofs.Ytfaobpmbiocafaa.Bk
set_option linter.unusedVariables false
set_option maxRecDepth 100000

theorem radd (s : ByteArray) (k : Nat) (h : k ≤ 6) (hk : k < s.size) :
    ((numL (s.data.toList.take k) : Nat) : Int) * 256 + (s[k].toNat : Nat) = ((numL (s.data.toList.take (k + 1)) : Nat) : Int) := by
  rw [Cur.take_snoc s k hk, numL_snoc]
  omega

set_option maxHeartbeats 800000 in
theorem rnumber (s : ByteArray) (w : World) (hs : s.size ≤ 7) :
    Calls Try.prog 47 #[.string s] w fun e w' => e = .returned (.int .i64 (numL s.data.toList)) ∧ w = w' := by
  go_enter Try.func47, Try.ntmps47
  go_wp2
  go_loop [3, 4] (fun n i => ∃ k : Nat, k ≤ s.size ∧ i = .int .i64 k ∧ n = .int .i64 (numL (s.data.toList.take k))) (fun _ i => s.size - (intOf i).toNat)
  case atStart => exact ⟨0, Nat.zero_le _, rfl, rfl⟩
  case round =>
    obtain ⟨k, hk, rfl, rfl⟩ := hrel
    by_cases hlt : k < s.size
    · have hr := Lib.hid (radd s k (by omega) hlt)
      have hb := num_lt6 s k (by omega) (by omega)
      have hc := s[k].toNat_lt
      have h7 : k < 7 := by omega
      go_wp2
      go_round
      case rel => exact ⟨k + 1, by omega, by go_num, congrArg (Value.int IntKind.i64) (by rw [← hr.out])⟩
      case measure => simp [intOf]; omega
    · go_wp2
      go_ret
      exact ⟨int_eq (by rw [List.take_of_length_le (by simp; omega)]), rfl⟩

theorem ext_list (s : ByteArray) (a b : Nat) : (s.extract a b).data.toList = (s.data.toList.drop a).take (b - a) := by
  simp [ByteArray.data_extract, List.extract_eq_take_drop]
theorem rnum_ext (s : ByteArray) (a b : Nat) (w : World) (h : b - a ≤ 7) :
    Calls Try.prog 47 #[.string (s.extract a b)] w fun e w' => e = .returned (.int .i64 (numL ((s.data.toList.drop a).take (b - a)))) ∧ w' = w := by
  rw [← ext_list]
  exact (rnumber _ _ (by simp; omega)).mono fun e w' ⟨h1, h2⟩ => ⟨h1, h2.symm⟩
theorem sl_h (s : ByteArray) (j : Int) (hi : Nat) (hj : j = hi) (h2 : hi ≤ s.size) (W : World) :
    (Instr.slice 9 (.string s) none (some (.int .i64 j)) none).run Try.prog W = .ok (.string (s.extract 0 hi)) W := by
  subst hj
  have := run_slice_string_h (P := Try.prog) (t := 9) (s := s) W Try.underlying9 .i64 (hi : Int) (by omega) (by omega)
  simpa using this
theorem sl_m (s : ByteArray) (i j : Int) (lo hi : Nat) (hi' : i = lo) (hj : j = hi) (h1 : lo ≤ hi) (h2 : hi ≤ s.size) (W : World) :
    (Instr.slice 9 (.string s) (some (.int .i64 i)) (some (.int .i64 j)) none).run Try.prog W = .ok (.string (s.extract lo hi)) W := by
  subst hi' hj
  have := run_slice_string (P := Try.prog) W 9 s .i64 .i64 (lo : Int) (hi : Int) Try.underlying9 (by omega) (by omega) (by omega)
  simpa using this
theorem sl_l (s : ByteArray) (i : Int) (lo hi : Nat) (hi' : i = lo) (h1 : lo ≤ s.size) (hs : s.size = hi) (W : World) :
    (Instr.slice 9 (.string s) (some (.int .i64 i)) none none).run Try.prog W = .ok (.string (s.extract lo hi)) W := by
  subst hi' hs
  have := run_slice_string_l (P := Try.prog) (t := 9) (s := s) W Try.underlying9 .i64 (lo : Int) (by omega) (by omega)
  simpa using this

theorem rget_no (s : ByteArray) (w : World) (hm : s.size ≤ maxLen) (hs : s.size ≠ 20) :
    Calls Try.prog 23 #[.string s] w fun e w' => e = .returned (.tuple #[.agg E.zero.cells, .bool false]) ∧ Below w.heap.size w w' := by
  unfold maxLen at hm
  go_enter Try.func23, Try.ntmps23
  go_wp2_with (first | (refine wpList_builtK rfl 48 _ rfl E.zero.cells (by kernel_rfl) ?_) | (refine wpList_storeK (b := w.heap.size) shE rfl _ _ rfl rfl rfl (Bk.new 48 w E.zero.cells) rfl rfl (E.one E.zero) ?_))
  refine bodyPost_ret (v := .tuple #[.agg E.zero.cells, .bool false]) (results_pair (ty := 48) rfl _ _ w.heap.size _ rfl (loadVarK shE ((Bk.new 48 w E.zero.cells).put _) rfl) _ rfl) rfl ⟨rfl, below_setRow ((Below.refl w.heap.size w).alloc (Nat.le_refl _) _) (Nat.le_refl _) _⟩

set_option maxHeartbeats 1600000 in
theorem rget_yes (s : ByteArray) (w : World) (hs : s.size = 20) :
    Calls Try.prog 23 #[.string s] w fun e w' => e = .returned (.tuple #[.agg (E.of s).cells, .bool true]) ∧ Below w.heap.size w w' := by
  have hm : s.size ≤ maxLen := by unfold maxLen; omega
  go_enter Try.func23, Try.ntmps23
  go_upto_region 3 with fail
  have h1 := Bk.new 48 w E.zero.cells
  have hb := (Below.refl w.heap.size w).alloc (Nat.le_refl _) (.cells E.zero.cells 48)
  change Code.wp _ _ _ _ (w.alloc (.cells E.zero.cells 48))
  generalize w.alloc _ = W at *
  have s1 := sl_h s 2 2 rfl (by omega)
  have s2 := sl_m s 2 4 2 4 rfl rfl (by omega) (by omega)
  have s3 := sl_m s 4 8 4 8 rfl rfl (by omega) (by omega)
  have s4 := sl_m s 8 12 8 12 rfl rfl (by omega) (by omega)
  have s5 := sl_m s 12 16 12 16 rfl rfl (by omega) (by omega)
  have s6 := sl_l s 16 16 20 rfl (by omega) hs
  clear hs
  refine wp_region_still_tail 15 (by kernel_rfl) (by kernel_rfl) ?_
  simp only [List.take_succ_cons, List.take_zero, List.drop_succ_cons, List.drop_zero]
  repeat still_step
  still_call (rnum_ext s 0 2 _ (by omega))
  repeat still_step
  still_call (rnum_ext s 2 4 _ (by omega))
  repeat still_step
  still_call (rnum_ext s 16 20 _ (by omega))
  repeat still_step
  refine wpStill_nil ?_
  change wpList _ _ _ _ _ W.drew
  replace h1 := h1.drew
  replace hb := hb.drew
  generalize W.drew = V at *
  clear s1 s2 s3 s4 s5 s6
  go_wp2_with (first | (refine wpList_builtK rfl 48 _ rfl (E.of s).cells (by kernel_rfl) ?_) | (refine wpList_storeK (b := w.heap.size) shE rfl _ _ rfl rfl rfl h1 rfl rfl (E.one (E.of s)) ?_))
  refine bodyPost_ret (v := .tuple #[.agg (E.of s).cells, .bool true]) (results_pair (ty := 48) rfl _ _ w.heap.size _ rfl (loadVarK shE (h1.put _) rfl) _ rfl) rfl ⟨rfl, below_setRow hb (Nat.le_refl _) _⟩

/-- What a number comes to, by the octet's Put: its bytes, or nothing. -/
theorem octet_any (v : Int) (n : Nat) (ni : Int) (hni : ni = n) (h1 : 1 ≤ n) (h7 : n ≤ 7) (w : World) :
    Calls Try.prog 65 #[.int .i64 v, .int .i64 ni] w fun e w' => e = .returned (.tuple #[.string ⟨(layN v n).toArray⟩, .bool (fitsB v n)]) ∧ Below w.heap.size w w' := by
  subst hni
  by_cases hf : fitsB v n = true
  · obtain ⟨_, _, hv0, hv1⟩ := (fitsB_iff v n).1 hf
    have hl : layN v n = be v.toNat n := by unfold layN; rw [if_pos hf]
    rw [hl, hf]
    obtain ⟨v, rfl⟩ := Int.eq_ofNat_of_zero_le hv0
    exact rput_yes v n w h1 h7 (by simpa using hv1)
  · have hf : fitsB v n = false := by simpa using hf
    have hl : layN v n = [] := by unfold layN; rw [hf]; rfl
    rw [hl, hf]
    exact rput_no v n w hf

theorem put_cat (e : E) (h : okE e = true) : putE e = ByteArray.mk (layN e.fam 2).toArray ++ ByteArray.mk (layN e.tag 2).toArray ++ e.addr ++ e.mask ++ e.next ++ ByteArray.mk (layN e.met 4).toArray := by
  unfold putE
  rw [if_pos h]
  unfold okE at h
  simp only [Bool.and_eq_true, decide_eq_true_eq] at h
  obtain ⟨⟨⟨⟨⟨_, _⟩, h1⟩, h2⟩, h3⟩, _⟩ := h
  unfold laidE layT
  rw [if_pos h1, if_pos h2, if_pos h3]
  apply ByteArray.ext
  apply Array.toList_inj.1
  simp [ByteArray.data_append]

set_option maxHeartbeats 1600000 in
theorem rput_any (e : E) (w : World) (he : OkE e) :
    Calls Try.prog 67 #[.agg e.cells] w fun r w' => r = .returned (.tuple #[.string (putE e), .bool (okE e)]) ∧ Below w.heap.size w w' := by
  go_enter Try.func67, Try.ntmps67
  go_upto_region 1 with fail
  have h0 := Bk.new 48 w e.cells
  have b0 := (Below.refl w.heap.size w).alloc (Nat.le_refl _) (.cells e.cells 48)
  generalize w.alloc _ = W at *
  have c := h0.cell 0 (.int .i64 e.fam) rfl
  go_wp2_with fail
  refine (octet_any e.fam 2 2 rfl (by omega) (by omega) W).mono ?_
  rintro r W1 ⟨rfl, hb⟩
  have h1 := h0.below hb
  have b1 := b0.trans (hb.mono b0.size)
  clear c hb b0 h0
  have c := h1.cell 1 (.int .i64 e.tag) rfl
  go_wp2_with fail
  refine (octet_any e.tag 2 2 rfl (by omega) (by omega) W1).mono ?_
  rintro r W2 ⟨rfl, hb⟩
  have h2 := h1.below hb
  have b2 := b1.trans (hb.mono b1.size)
  clear c hb b1 h1
  have c := h2.cell 5 (.int .i64 e.met) rfl
  go_wp2_with fail
  refine (octet_any e.met 4 4 rfl (by omega) (by omega) W2).mono ?_
  rintro r W3 ⟨rfl, hb⟩
  have h3 := h2.below hb
  have b3 := b2.trans (hb.mono b2.size)
  clear c hb b2 h2
  go_upto_region 4 with fail
  have c2 := h3.cell 2 (.string e.addr) rfl
  have c3 := h3.cell 3 (.string e.mask) rfl
  have c4 := h3.cell 4 (.string e.next) rfl
  generalize hx1 : fitsB e.fam 2 = x1
  generalize hx2 : fitsB e.tag 2 = x2
  generalize hx3 : fitsB e.met 4 = x3
  have hk : okE e = (x1 && x2 && decide (e.addr.size = 4) && decide (e.mask.size = 4) && decide (e.next.size = 4) && x3) := by unfold okE; rw [hx1, hx2, hx3]
  have HL1 : Hid ((ByteArray.mk (layN e.fam 2).toArray).size ≤ 2) := by show (layN e.fam 2).toArray.size ≤ 2; simpa using layN_len e.fam 2
  have HL2 : Hid ((ByteArray.mk (layN e.tag 2).toArray).size ≤ 2) := by show (layN e.tag 2).toArray.size ≤ 2; simpa using layN_len e.tag 2
  have HL3 : Hid ((ByteArray.mk (layN e.met 4).toArray).size ≤ 4) := by show (layN e.met 4).toArray.size ≤ 4; simpa using layN_len e.met 4
  have HY : Hid (okE e = true → putE e = ByteArray.mk (layN e.fam 2).toArray ++ ByteArray.mk (layN e.tag 2).toArray ++ e.addr ++ e.mask ++ e.next ++ ByteArray.mk (layN e.met 4).toArray) := Lib.hid (put_cat e)
  generalize ByteArray.mk (layN e.fam 2).toArray = t1 at *
  generalize ByteArray.mk (layN e.tag 2).toArray = t2 at *
  generalize ByteArray.mk (layN e.met 4).toArray = t3 at *
  clear hx1 hx2 hx3
  obtain ⟨m1, m2, m3⟩ := he
  unfold maxLen at m1 m2 m3
  have l1 := HL1.out
  have l2 := HL2.out
  have l3 := HL3.out
  clear HL1 HL2 HL3
  cases x1
  · have HN : Hid (okE e = false) := Lib.hid (by rw [hk]; rfl)
    clear hk
    go_wp2
    go_ret2
    exact ⟨tup_eq (by rw [putE, if_neg (by rw [HN.out]; decide)]) HN.out.symm, b3⟩
  cases x2
  · have HN : Hid (okE e = false) := Lib.hid (by rw [hk]; rfl)
    clear hk
    go_wp2
    go_ret2
    exact ⟨tup_eq (by rw [putE, if_neg (by rw [HN.out]; decide)]) HN.out.symm, b3⟩
  cases x3
  · have HN : Hid (okE e = false) := Lib.hid (by rw [hk, Bool.and_false])
    clear hk
    go_wp2
    go_ret2
    exact ⟨tup_eq (by rw [putE, if_neg (by rw [HN.out]; decide)]) HN.out.symm, b3⟩
  by_cases q0 : e.addr.size = 4
  rotate_left
  · have HN : Hid (okE e = false) := Lib.hid (by rw [hk, decide_eq_false q0]; simp)
    clear hk
    go_wp2
    go_ret2
    exact ⟨tup_eq (by rw [putE, if_neg (by rw [HN.out]; decide)]) HN.out.symm, b3⟩
  by_cases q1 : e.mask.size = 4
  rotate_left
  · have HN : Hid (okE e = false) := Lib.hid (by rw [hk, decide_eq_false q1]; simp)
    clear hk
    go_wp2
    go_ret2
    exact ⟨tup_eq (by rw [putE, if_neg (by rw [HN.out]; decide)]) HN.out.symm, b3⟩
  by_cases q2 : e.next.size = 4
  rotate_left
  · have HN : Hid (okE e = false) := Lib.hid (by rw [hk, decide_eq_false q2]; simp)
    clear hk
    go_wp2
    go_ret2
    exact ⟨tup_eq (by rw [putE, if_neg (by rw [HN.out]; decide)]) HN.out.symm, b3⟩
  have HN : Hid (okE e = true) := Lib.hid (by rw [hk]; simp [q0, q1, q2])
  clear hk
  go_wp2
  go_ret2
  exact ⟨tup_eq (HY.out HN.out).symm HN.out.symm, b3⟩
end Go.Proofs.Ytfaobpmbiocafaa.Ent
