/-
  Layer 11 and the document's own: fits and Put of entries of RIPng. Condition: texts no longer than a text may be.
-/
import Derived.Test.YthfdcmijciclkaaRx
import Derived.IntWalk
import Derived.LoopTactic
import Derived.StillTailTactics
import Derived.Deep.QuietTactic
import Derived.BigQuiet
namespace Go.Proofs.Ythfdcmijciclkaa.Rte
open Go.ChangeShapes Go.WideShapes Go.ChangeAt Go.RowKit
open Go.Proofs.Ythfdcmijciclkaa.Cur
open Go.Proofs.Ythfdcmijciclkaa.Oct
open Go.Proofs.Ythfdcmijciclkaa.Bk
set_option linter.unusedVariables false
set_option maxRecDepth 100000
set_option maxRecDepth 100000

set_option maxHeartbeats 1600000 in
theorem fits_e (e : E) (w : World) (he : OkE e) :
    Calls Try.prog 68 #[.agg e.cells] w fun r w' => r = .returned (.bool (okE e)) ∧ Below w.heap.size w w' := by
  obtain ⟨m1, m2, m3⟩ := he
  unfold maxLen at m1 m2 m3
  have h0 := Bk.new 45 w e.cells
  have b0 := (Below.refl w.heap.size w).alloc (Nat.le_refl _) (.cells e.cells 45)
  go_enter Try.func68, Try.ntmps68
  go_upto_region 1 with fail
  generalize w.alloc _ = W at *
  have c0 := h0.cell 0 (.int .i64 e.fam) rfl
  have c1 := h0.cell 1 (.int .i64 e.tag) rfl
  have c2 := h0.cell 2 (.string e.addr) rfl
  have c3 := h0.cell 3 (.string e.mask) rfl
  have c4 := h0.cell 4 (.string e.next) rfl
  have c5 := h0.cell 5 (.int .i64 e.met) rfl
  have hk : okE e = (decide (e.addr.size = 16) && decide (e.mask.size = 0) && decide (e.next.size = 0) && fitsB e.tag 2 && fitsB e.fam 1 && fitsB e.met 1) := rfl
  by_cases q1 : e.addr.size = 16
  rotate_left
  · have HN : Hid (okE e = false) := Lib.hid (by rw [hk, decide_eq_false q1]; simp)
    clear hk
    go_wp2
    go_ret
    exact ⟨Oct.bool_eq HN.out.symm, b0⟩
  by_cases q2 : e.mask.size = 0
  rotate_left
  · have HN : Hid (okE e = false) := Lib.hid (by rw [hk, decide_eq_false q2]; simp)
    have n1 := not_nil _ q2
    have n2 : (e.mask.toList == []) = false := by simpa using n1
    have n3 : e.mask.toList.isEmpty = false := by simpa using n1
    clear hk
    go_wp2
    go_ret
    exact ⟨Oct.bool_eq HN.out.symm, b0⟩
  by_cases q3 : e.next.size = 0
  rotate_left
  · have HN : Hid (okE e = false) := Lib.hid (by rw [hk, decide_eq_false q3]; simp)
    have k1 := nil_of _ q2
    have n1 := not_nil _ q3
    have n2 : (e.next.toList == []) = false := by simpa using n1
    have n3 : e.next.toList.isEmpty = false := by simpa using n1
    clear hk
    go_wp2
    go_ret
    exact ⟨Oct.bool_eq HN.out.symm, b0⟩
  have k1 := nil_of _ q2
  have k2 := nil_of _ q3
  rw [decide_eq_true q1, decide_eq_true q2, decide_eq_true q3] at hk
  simp only [Bool.true_and] at hk
  have P1 := Lib.hid (fun V => fits_any e.tag 2 V)
  have P2 := Lib.hid (fun V => fits_any e.fam 1 V)
  have P3 := Lib.hid (fun V => fits_any e.met 1 V)
  generalize fitsB e.tag 2 = x1 at *
  generalize fitsB e.fam 1 = x2 at *
  generalize fitsB e.met 1 = x3 at *
  have HK := Lib.hid hk
  clear hk
  cases x1
  · go_wp2_with fail
    refine (P1.out _).mono ?_
    rintro r w' ⟨rfl, rfl⟩
    go_wp2
    go_ret
    exact ⟨Oct.bool_eq HK.out.symm, b0⟩
  cases x2
  · go_wp2_with fail
    refine (P1.out _).mono ?_
    rintro r w' ⟨rfl, rfl⟩
    go_wp2_with fail
    refine (P2.out _).mono ?_
    rintro r w' ⟨rfl, rfl⟩
    go_wp2
    go_ret
    exact ⟨Oct.bool_eq HK.out.symm, b0⟩
  go_wp2_with fail
  refine (P1.out _).mono ?_
  rintro r w' ⟨rfl, rfl⟩
  go_wp2_with fail
  refine (P2.out _).mono ?_
  rintro r w' ⟨rfl, rfl⟩
  go_wp2_with fail
  refine (P3.out _).mono ?_
  rintro r w' ⟨rfl, rfl⟩
  go_wp2
  go_ret
  exact ⟨Oct.bool_eq HK.out.symm, b0⟩

set_option maxHeartbeats 1600000 in
theorem put_any (e : E) (w : World) (he : OkE e) :
    Calls Try.prog 63 #[.agg e.cells] w fun r w' => r = .returned (.tuple #[.string (putE e), .bool (okE e)]) ∧ Below w.heap.size w w' := by
  have h0 := Bk.new 45 w e.cells
  have b0 := (Below.refl w.heap.size w).alloc (Nat.le_refl _) (.cells e.cells 45)
  have PF := Lib.hid (fun V => fits_e e V he)
  have HL1 : Hid ((ByteArray.mk (layN e.tag 2).toArray).size ≤ 2) := by show (layN e.tag 2).toArray.size ≤ 2; simpa using layN_len e.tag 2
  have HL2 : Hid ((ByteArray.mk (layN e.fam 1).toArray).size ≤ 1) := by show (layN e.fam 1).toArray.size ≤ 1; simpa using layN_len e.fam 1
  have HL3 : Hid ((ByteArray.mk (layN e.met 1).toArray).size ≤ 1) := by show (layN e.met 1).toArray.size ≤ 1; simpa using layN_len e.met 1
  have P1 := Lib.hid (fun V => oput_any e.tag 2 2 rfl (by omega) (by omega) V)
  have P2 := Lib.hid (fun V => oput_any e.fam 1 1 rfl (by omega) (by omega) V)
  have P3 := Lib.hid (fun V => oput_any e.met 1 1 rfl (by omega) (by omega) V)
  have HY := Lib.hid (put_yes_eq e)
  have HN := Lib.hid (put_no_eq e)
  generalize ByteArray.mk (layN e.tag 2).toArray = t1 at *
  generalize ByteArray.mk (layN e.fam 1).toArray = t2 at *
  generalize ByteArray.mk (layN e.met 1).toArray = t3 at *
  generalize fitsB e.tag 2 = x1 at P1
  generalize fitsB e.fam 1 = x2 at P2
  generalize fitsB e.met 1 = x3 at P3
  have HZ : Hid (okE e = true → e.addr.size = 16) := Lib.hid (fun h => by
    unfold okE at h
    simp only [Bool.and_eq_true, decide_eq_true_eq] at h
    exact h.1.1.1.1.1)
  generalize okE e = k at *
  go_enter Try.func63, Try.ntmps63
  go_upto_region 1 with fail
  generalize w.alloc _ = W at *
  go_wp2_with (first | (refine wpList_loadK (b := w.heap.size) shE rfl _ rfl rfl h0 rfl ?_))
  refine (PF.out _).mono ?_
  rintro r W1 ⟨rfl, hb⟩
  have h1 := h0.below hb
  have b1 := b0.trans (hb.mono b0.size)
  clear hb b0 h0
  cases k
  · have hn := Lib.hid (HN.out rfl)
    clear HN HY
    go_wp2
    go_ret2
    exact ⟨tup_eq hn.out.symm rfl, b1⟩
  have hz := HZ.out rfl
  have hy := Lib.hid (HY.out rfl)
  clear HN HY HZ
  have c1 := h1.cell 1 (.int .i64 e.tag) rfl
  go_wp2_with fail
  refine (P1.out _).mono ?_
  rintro r W2 ⟨rfl, hb⟩
  have h2 := h1.below hb
  have b2 := b1.trans (hb.mono b1.size)
  clear hb b1 h1 c1
  have c1 := h2.cell 0 (.int .i64 e.fam) rfl
  go_wp2_with fail
  refine (P2.out _).mono ?_
  rintro r W3 ⟨rfl, hb⟩
  have h3 := h2.below hb
  have b3 := b2.trans (hb.mono b2.size)
  clear hb b2 h2 c1
  have c1 := h3.cell 5 (.int .i64 e.met) rfl
  go_wp2_with fail
  refine (P3.out _).mono ?_
  rintro r W4 ⟨rfl, hb⟩
  have h4 := h3.below hb
  have b4 := b3.trans (hb.mono b3.size)
  clear hb b3 h3 c1
  have c2 := h4.cell 2 (.string e.addr) rfl
  have l1 := HL1.out
  have l2 := HL2.out
  have l3 := HL3.out
  clear HL1 HL2 HL3
  go_wp2
  go_ret2
  exact ⟨tup_eq hy.out.symm rfl, b4⟩

set_option maxHeartbeats 1600000 in
theorem rput_any (e : E) (w : World) (he : OkE e) :
    Calls Try.prog 38 #[.agg e.cells] w fun r w' => r = .returned (.tuple #[.string (putE e), .bool (okE e)]) ∧ Below w.heap.size w w' := by
  have h0 := Bk.new 45 w e.cells
  have b0 := (Below.refl w.heap.size w).alloc (Nat.le_refl _) (.cells e.cells 45)
  have HL1 : Hid ((ByteArray.mk (layN e.tag 2).toArray).size ≤ 2) := by show (layN e.tag 2).toArray.size ≤ 2; simpa using layN_len e.tag 2
  have HL2 : Hid ((ByteArray.mk (layN e.fam 1).toArray).size ≤ 1) := by show (layN e.fam 1).toArray.size ≤ 1; simpa using layN_len e.fam 1
  have HL3 : Hid ((ByteArray.mk (layN e.met 1).toArray).size ≤ 1) := by show (layN e.met 1).toArray.size ≤ 1; simpa using layN_len e.met 1
  have P1 := Lib.hid (fun V => octet_any e.tag 2 2 rfl (by omega) (by omega) V)
  have P2 := Lib.hid (fun V => octet_any e.fam 1 1 rfl (by omega) (by omega) V)
  have P3 := Lib.hid (fun V => octet_any e.met 1 1 rfl (by omega) (by omega) V)
  have HY := Lib.hid (put_yes_eq e)
  have HN := Lib.hid (put_no_eq e)
  have hk : okE e = (decide (e.addr.size = 16) && decide (e.mask.size = 0) && decide (e.next.size = 0) && fitsB e.tag 2 && fitsB e.fam 1 && fitsB e.met 1) := rfl
  generalize ByteArray.mk (layN e.tag 2).toArray = t1 at *
  generalize ByteArray.mk (layN e.fam 1).toArray = t2 at *
  generalize ByteArray.mk (layN e.met 1).toArray = t3 at *
  generalize fitsB e.tag 2 = x1 at *
  generalize fitsB e.fam 1 = x2 at *
  generalize fitsB e.met 1 = x3 at *
  generalize okE e = k at *
  go_enter Try.func38, Try.ntmps38
  go_upto_region 1 with fail
  generalize w.alloc _ = W1 at *
  have c1 := h0.cell 1 (.int .i64 e.tag) rfl
  go_wp2_with fail
  refine (P1.out _).mono ?_
  rintro r W2 ⟨rfl, hb⟩
  have h2 := h0.below hb
  have b2 := b0.trans (hb.mono b0.size)
  clear hb b0 h0 c1
  have c1 := h2.cell 0 (.int .i64 e.fam) rfl
  go_wp2_with fail
  refine (P2.out _).mono ?_
  rintro r W3 ⟨rfl, hb⟩
  have h3 := h2.below hb
  have b3 := b2.trans (hb.mono b2.size)
  clear hb b2 h2 c1
  have c1 := h3.cell 5 (.int .i64 e.met) rfl
  go_wp2_with fail
  refine (P3.out _).mono ?_
  rintro r W4 ⟨rfl, hb⟩
  have h4 := h3.below hb
  have b4 := b3.trans (hb.mono b3.size)
  clear hb b3 h3 c1
  go_upto_region 4 with fail
  have c2 := h4.cell 2 (.string e.addr) rfl
  have c3 := h4.cell 3 (.string e.mask) rfl
  have c4 := h4.cell 4 (.string e.next) rfl
  obtain ⟨m1, m2, m3⟩ := he
  unfold maxLen at m1 m2 m3
  have l1 := HL1.out
  have l2 := HL2.out
  have l3 := HL3.out
  clear HL1 HL2 HL3
  cases x1
  · have HF := Lib.hid (show k = false by rw [hk]; simp)
    clear hk
    go_wp2
    go_ret2
    exact ⟨tup_eq (HN.out HF.out).symm HF.out.symm, b4⟩
  cases x2
  · have HF := Lib.hid (show k = false by rw [hk]; simp)
    clear hk
    go_wp2
    go_ret2
    exact ⟨tup_eq (HN.out HF.out).symm HF.out.symm, b4⟩
  cases x3
  · have HF := Lib.hid (show k = false by rw [hk]; simp)
    clear hk
    go_wp2
    go_ret2
    exact ⟨tup_eq (HN.out HF.out).symm HF.out.symm, b4⟩
  by_cases q1 : e.addr.size = 16
  rotate_left
  · have HF := Lib.hid (show k = false by rw [hk, decide_eq_false q1]; simp)
    clear hk
    go_wp2
    go_ret2
    exact ⟨tup_eq (HN.out HF.out).symm HF.out.symm, b4⟩
  by_cases q2 : e.mask.size = 0
  rotate_left
  · have HF := Lib.hid (show k = false by rw [hk, decide_eq_false q2]; simp)
    have n1 := not_nil _ q2
    have n2 : (e.mask.toList == []) = false := by simpa using n1
    have n3 : e.mask.toList.isEmpty = false := by simpa using n1
    clear hk
    go_wp2
    go_ret2
    exact ⟨tup_eq (HN.out HF.out).symm HF.out.symm, b4⟩
  have k1 := nil_of _ q2
  by_cases q3 : e.next.size = 0
  rotate_left
  · have HF := Lib.hid (show k = false by rw [hk, decide_eq_false q3]; simp)
    have n1 := not_nil _ q3
    have n2 : (e.next.toList == []) = false := by simpa using n1
    have n3 : e.next.toList.isEmpty = false := by simpa using n1
    clear hk
    go_wp2
    go_ret2
    exact ⟨tup_eq (HN.out HF.out).symm HF.out.symm, b4⟩
  have k2 := nil_of _ q3
  have HF := Lib.hid (show k = true by rw [hk, decide_eq_true q1, decide_eq_true q2, decide_eq_true q3]; rfl)
  clear hk
  go_wp2
  go_ret2
  exact ⟨tup_eq (HY.out HF.out).symm HF.out.symm, b4⟩
end Go.Proofs.Ythfdcmijciclkaa.Rte
