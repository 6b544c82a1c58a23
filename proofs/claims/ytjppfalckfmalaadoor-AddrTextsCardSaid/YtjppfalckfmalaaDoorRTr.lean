/-
  The document's Text and Read: the same functions as the program's. Condition: a text of at most 1,000 bytes.
-/
import Derived.Test.YtjppfalckfmalaaDoorRPa
namespace Go.Proofs.YtjppfalckfmalaaDoor.RTr
open Go.ChangeShapes Go.WideShapes Go.ChangeAt Go.RowKit
open Go.Proofs.YtjppfalckfmalaaDoor.Sb
open Go.Proofs.YtjppfalckfmalaaDoor.Ad
open Go.Proofs.YtjppfalckfmalaaDoor.Tab
open Go.Proofs.YtjppfalckfmalaaDoor.Tr
open Go.Proofs.YtjppfalckfmalaaDoor.Wr
open Go.Proofs.YtjppfalckfmalaaDoor.RFo
open Go.Proofs.YtjppfalckfmalaaDoor.RNum
open Go.Proofs.YtjppfalckfmalaaDoor.RVal
open Go.Proofs.YtjppfalckfmalaaDoor.RPa
set_option linter.unusedVariables false

theorem drawn_two {w a b : World} (h : ∃ n, a = w.drewN n) (k : ∃ n, b = a.drewN n) : ∃ n, b = w.drewN n := by
  obtain ⟨n, rfl⟩ := h
  obtain ⟨m, rfl⟩ := k
  exact ⟨_, World.drewN_drewN _ _ _⟩
theorem word1 (a : List UInt8) (k : Nat) (h : k < a.length) : word 1 a k = a[k].toNat := by
  unfold word
  rw [Nat.mul_one, List.drop_eq_getElem_cons h, List.take_succ_cons, List.take_zero]
  show 0 * 256 + a[k].toNat = _
  omega
theorem word2 (a : List UInt8) (k : Nat) (h : k * 2 + 1 < a.length) : word 2 a k = 256 * a[k * 2].toNat + a[k * 2 + 1].toNat := by
  unfold word
  rw [List.drop_eq_getElem_cons (show k * 2 < a.length by omega), List.drop_eq_getElem_cons h, List.take_succ_cons, List.take_succ_cons, List.take_zero]
  show (0 * 256 + a[k * 2].toNat) * 256 + a[k * 2 + 1].toNat = _
  omega
theorem cat_at (x y z : List UInt8) (hx : x.length ≤ 1000) (hy : y.length ≤ 1000) (e : x ++ y = z) (W : World) : (Op.stringOp .add ⟨x.toArray⟩ ⟨y.toArray⟩).run Tryd.prog W = .ok (.string ⟨z.toArray⟩) W := by
  subst e
  exact run_string_add_lists (P := Tryd.prog) W x y (by omega) (by omega)

set_option maxHeartbeats 8000000 in
set_option maxRecDepth 100000 in
theorem rtext4 (a : ByteArray) (h : a.size = 4) (w : World) :
    Calls Tryd.prog 20 #[.string a] w fun e w' => e = .returned (.tuple #[.string ⟨(txt 46 10 1 4 a.data.toList).toArray⟩, .bool true]) ∧ ∃ n, w' = w.drewN n := by
  have P1 := Lib.hid (fun w => rfamily_any a w)
  rw [fam4 h] at P1
  have HZ := Lib.hid h
  have HSZ := Lib.hid (show a.data.toList.length = a.size by simp)
  clear h
  go_enter Tryd.func20, Tryd.ntmps20
  go_wp2_with (go_at_call 12; refine (P1.out _).mono ?_; rintro e w ⟨rfl, rfl⟩)
  go_loopw [4, 5] (fun v i wr => ∃ k : Nat, k ≤ 4 ∧ i = .int .i64 k ∧ v = .string ⟨(txt 46 10 1 k a.data.toList).toArray⟩ ∧ Hid (∃ n, wr = w.drewN n)) (fun _ i _ => 4 - (intOf i).toNat)
  case atStart => exact ⟨0, by omega, rfl, by rw [txt_zero], Lib.hid ⟨0, by simp [World.drewN_zero]⟩⟩
  case round =>
    obtain ⟨k, hk, rfl, rfl, HW⟩ := hrel
    by_cases hkn : k < 4
    · have hka : k < a.size := by have := HZ.out; omega
      have hkl : k < a.data.toList.length := by have := HSZ.out; omega
      have PN := Lib.hid (fun w => number10 a[k].toNat (by have := a[k].toNat_lt; omega) w)
      have h1 := txt_len 46 10 1 (by decide) (by decide) a.data.toList k
      have h2 := ahead_len 46 10 1 k (by decide) (by decide) a.data.toList
      have h3 := num_len 10 (by decide) 4 a[k].toNat (by have := a[k].toNat_lt; omega)
      have h4 := txt_ahead 46 10 1 k a.data.toList
      rw [word1 _ k hkl, list_at a k hka hkl] at h4
      have hcat2 := cat_at _ _ _ (by omega) (by omega) h4.symm
      have hb := a[k].toNat_lt
      by_cases h0 : k = 0
      · have hg : decide (0 < k) = false := decide_eq_false (by omega)
        have e0 : Wr.ahead 46 10 1 k a.data.toList = txt 46 10 1 k a.data.toList := by rw [h0, txt_zero, Wr.ahead, if_pos rfl]
        rw [e0] at hcat2
        clear h1 h2 h3 h4 e0 h0
        generalize txt 46 10 1 k a.data.toList = t0 at *
        generalize hT : txt 46 10 1 (k + 1) a.data.toList = t1 at *
        have HT := Lib.hid hT
        clear hT
        go_wp2_with ((with_reducible refine (PN.out _).mono ?_); rintro e w2 ⟨rfl, n, rfl⟩)
        clear hcat2
        go_roundw
        case rel => exact ⟨k + 1, by omega, by go_num, by rw [HT.out], Lib.hid (drawn_two HW.out ⟨_, rfl⟩)⟩
        case measure => simp [intOf]; omega
      · have hg : 0 < k := by omega
        have e0 : txt 46 10 1 k a.data.toList ++ [46] = Wr.ahead 46 10 1 k a.data.toList := by rw [Wr.ahead, if_neg h0]
        have hcat1 := cat_at _ _ _ (by omega) (by simp) e0
        clear h1 h2 h3 h4 e0 h0
        generalize txt 46 10 1 k a.data.toList = t0 at *
        generalize Wr.ahead 46 10 1 k a.data.toList = t2 at *
        generalize hT : txt 46 10 1 (k + 1) a.data.toList = t1 at *
        have HT := Lib.hid hT
        clear hT
        go_wp2_with ((with_reducible refine (PN.out _).mono ?_); rintro e w2 ⟨rfl, n, rfl⟩)
        clear hcat2 hcat1
        go_roundw
        case rel => exact ⟨k + 1, by omega, by go_num, by rw [HT.out], Lib.hid (drawn_two HW.out ⟨_, rfl⟩)⟩
        case measure => simp [intOf]; omega
    · have hke : k = 4 := by omega
      subst hke
      go_wp2
      go_ret2
      exact ⟨rfl, HW.out⟩

theorem num16_of (x y : Nat) (hx : x < 256) (hy : y < 256) (w : World) :
    Calls Tryd.prog 27 #[.int .i64 (256 * (x : Int) + (y : Int)), .int .i64 16] w fun e w' => e = .returned (.string ⟨(num 16 (256 * x + y)).toArray⟩) ∧ ∃ k, w' = w.drewN k := by
  have h := number16 (256 * x + y) (by omega) w
  have e : ((256 * x + y : Nat) : Int) = 256 * (x : Int) + (y : Int) := by omega
  rw [e] at h
  exact h

set_option maxHeartbeats 8000000 in
set_option maxRecDepth 100000 in
theorem rtext8 (a : ByteArray) (h : a.size = 16) (w : World) :
    Calls Tryd.prog 20 #[.string a] w fun e w' => e = .returned (.tuple #[.string ⟨(txt 58 16 2 8 a.data.toList).toArray⟩, .bool true]) ∧ ∃ n, w' = w.drewN n := by
  have P1 := Lib.hid (fun w => rfamily_any a w)
  rw [fam6 h] at P1
  have HZ := Lib.hid h
  have HSZ := Lib.hid (show a.data.toList.length = a.size by simp)
  clear h
  go_enter Tryd.func20, Tryd.ntmps20
  go_wp2_with (go_at_call 12; refine (P1.out _).mono ?_; rintro e w ⟨rfl, rfl⟩)
  go_loopw [4, 6] (fun v i wr => ∃ k m : Nat, m ≤ 16 ∧ i = .int .i64 m ∧ v = .string ⟨(txt 58 16 2 k a.data.toList).toArray⟩ ∧ Hid (m = k * 2) ∧ Hid (∃ n, wr = w.drewN n)) (fun _ i _ => 16 - (intOf i).toNat)
  case atStart => exact ⟨0, 0, by omega, rfl, by rw [txt_zero], Lib.hid rfl, Lib.hid ⟨0, by simp [World.drewN_zero]⟩⟩
  case round =>
    obtain ⟨k, m, hm, rfl, rfl, HM, HW⟩ := hrel
    by_cases hmn : m < 16
    · have HMM : Hid (m + 2 ≤ 16) := Lib.hid (by have := HM.out; omega)
      have hma : m < a.size := by have := HZ.out; omega
      have hmb : m + 1 < a.size := by have := HZ.out; have := HMM.out; omega
      have h1 := txt_len 58 16 2 (by decide) (by decide) a.data.toList k
      have h2 := ahead_len 58 16 2 k (by decide) (by decide) a.data.toList
      have h3 := num_len 16 (by decide) 4 (word 2 a.data.toList k) (Nat.lt_of_lt_of_le (word_lt 2 _ k) (by decide))
      have h4 := txt_ahead 58 16 2 k a.data.toList
      have hw : word 2 a.data.toList k = 256 * a[m].toNat + a[m + 1].toNat := by
        have hk2 := HM.out
        subst hk2
        rw [word2 _ k (by have := HSZ.out; omega), list_at a _ hma, list_at a _ hmb]
      rw [hw] at h3 h4
      have hx := a[m].toNat_lt
      have hy := a[m + 1].toNat_lt
      have i1 := index_at a m hma
      have i2 := index_at a (m + 1) hmb
      have hcat2 := cat_at _ _ _ (by have := HM.out; omega) (by omega) h4.symm
      clear hw
      generalize a[m].toNat = x at *
      generalize a[m + 1].toNat = y at *
      have e0 : ((m + 1 : Nat) : Int) = (m : Int) + 1 := by omega
      rw [e0] at i2
      have PN := Lib.hid (fun w => num16_of x y hx hy w)
      clear e0
      by_cases h0 : k = 0
      · have hg : decide (0 < m) = false := decide_eq_false (by have := HM.out; omega)
        have e0 : Wr.ahead 58 16 2 k a.data.toList = txt 58 16 2 k a.data.toList := by rw [h0, txt_zero, Wr.ahead, if_pos rfl]
        rw [e0] at hcat2
        clear h1 h2 h3 h4 e0 h0
        generalize txt 58 16 2 k a.data.toList = t0 at *
        generalize hT : txt 58 16 2 (k + 1) a.data.toList = t1 at *
        have HT := Lib.hid hT
        clear hT
        have E1 := Lib.hid (IntWalk.i64_in ((m : Int) + 1) (by omega))
        have E4 := Lib.hid (IntWalk.i64_in (256 * (x : Int)) (by omega))
        have E5 := Lib.hid (IntWalk.i64_in (256 * (x : Int) + (y : Int)) (by omega))
        have E2 := Lib.hid (IntWalk.i64_in (x : Int) (by omega))
        have E3 := Lib.hid (IntWalk.i64_in (y : Int) (by omega))
        have E6 := Lib.hid (IntWalk.wrap64_in (x : Int) (by omega))
        have E7 := Lib.hid (IntWalk.wrap64_in (y : Int) (by omega))
        have e1 := E1.out
        have e2 := E2.out
        have e3 := E3.out
        have e4 := E4.out
        have e5 := E5.out
        have e2' := E6.out
        have e3' := E7.out
        go_wp2
        go_quiet ((go_at_call 27; exact Calls.quiet_of (PN.out _)))
        clear hcat2 i1 i2 e1 e2 e3 e4 e5 e2' e3'
        go_wp2
        go_roundw
        case rel => exact ⟨k + 1, m + 2, HMM.out, by go_num, by rw [HT.out], Lib.hid (by have := HM.out; omega), Lib.hid (drawn_two HW.out ⟨_, rfl⟩)⟩
        case measure => simp [intOf]; omega
      · have hg : 0 < m := by have := HM.out; omega
        have e0 : txt 58 16 2 k a.data.toList ++ [58] = Wr.ahead 58 16 2 k a.data.toList := by rw [Wr.ahead, if_neg h0]
        have hcat1 := cat_at _ _ _ (by have := HM.out; omega) (by simp) e0
        clear h1 h2 h3 h4 e0 h0
        generalize txt 58 16 2 k a.data.toList = t0 at *
        generalize Wr.ahead 58 16 2 k a.data.toList = t2 at *
        generalize hT : txt 58 16 2 (k + 1) a.data.toList = t1 at *
        have HT := Lib.hid hT
        clear hT
        have E1 := Lib.hid (IntWalk.i64_in ((m : Int) + 1) (by omega))
        have E4 := Lib.hid (IntWalk.i64_in (256 * (x : Int)) (by omega))
        have E5 := Lib.hid (IntWalk.i64_in (256 * (x : Int) + (y : Int)) (by omega))
        have E2 := Lib.hid (IntWalk.i64_in (x : Int) (by omega))
        have E3 := Lib.hid (IntWalk.i64_in (y : Int) (by omega))
        have E6 := Lib.hid (IntWalk.wrap64_in (x : Int) (by omega))
        have E7 := Lib.hid (IntWalk.wrap64_in (y : Int) (by omega))
        have e1 := E1.out
        have e2 := E2.out
        have e3 := E3.out
        have e4 := E4.out
        have e5 := E5.out
        have e2' := E6.out
        have e3' := E7.out
        go_wp2
        go_quiet ((go_at_call 27; exact Calls.quiet_of (PN.out _)))
        clear hcat1 hcat2 i1 i2 e1 e2 e3 e4 e5 e2' e3'
        go_wp2
        go_roundw
        case rel => exact ⟨k + 1, m + 2, HMM.out, by go_num, by rw [HT.out], Lib.hid (by have := HM.out; omega), Lib.hid (drawn_two HW.out ⟨_, rfl⟩)⟩
        case measure => simp [intOf]; omega
    · have hmE : m = 16 := by omega
      have HK : Hid (k = 8) := Lib.hid (by have := HM.out; omega)
      go_wp2
      go_ret2
      rw [HK.out]
      exact ⟨rfl, HW.out⟩

theorem rtextN (a : ByteArray) (h4 : a.size ≠ 4) (h6 : a.size ≠ 16) (w : World) :
    Calls Tryd.prog 20 #[.string a] w fun e w' => e = .returned (.tuple #[.string ByteArray.empty, .bool false]) ∧ ∃ n, w' = w.drewN n := by
  have P1 := Lib.hid (fun w => rfamily_any a w)
  rw [famN h4 h6] at P1
  clear h4 h6
  go_enter Tryd.func20, Tryd.ntmps20
  go_wp2_with (go_at_call 12; refine (P1.out _).mono ?_; rintro e w ⟨rfl, rfl⟩)
  go_ret2
  exact ⟨rfl, 0, by simp [World.drewN_zero]⟩

theorem rtext_any (a : ByteArray) (w : World) :
    Calls Tryd.prog 20 #[.string a] w fun e w' => e = .returned (.tuple #[.string (txA a), .bool (isA a)]) ∧ ∃ n, w' = w.drewN n := by
  by_cases h4 : a.size = 4
  · have ei : isA a = true := by unfold isA; simp [h4]
    have et : txA a = ⟨(txt 46 10 1 4 a.data.toList).toArray⟩ := by rw [txA, if_pos ei, atxt4 a h4]
    rw [ei, et]; exact rtext4 a h4 w
  · by_cases h6 : a.size = 16
    · have ei : isA a = true := by unfold isA; simp [h6]
      have et : txA a = ⟨(txt 58 16 2 8 a.data.toList).toArray⟩ := by rw [txA, if_pos ei, atxt6 a h6]
      rw [ei, et]; exact rtext8 a h6 w
    · have ei : isA a = false := by unfold isA; simp [h4, h6]
      have et : txA a = ByteArray.empty := by rw [txA, if_neg (by rw [ei]; decide)]
      rw [ei, et]; exact rtextN a h4 h6 w
end Go.Proofs.YtjppfalckfmalaaDoor.RTr
