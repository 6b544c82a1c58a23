/-
  The document's Encode of AODV. Conditions: a list of at most 1000 messages, whose lists aren't long.
-/
import Derived.Test.YtlelfapmleopaaaA3
namespace Go.Proofs.Ytlelfapmleopaaa.A4
open Go.ChangeShapes Go.WideShapes Go.ChangeAt Go.RowKit
open Go.Proofs.Ytlelfapmleopaaa.Ms
open Go.Proofs.Ytlelfapmleopaaa.Box
open Go.Proofs.Ytlelfapmleopaaa.Xv
open Go.Proofs.Ytlelfapmleopaaa.All
open Go.Proofs.Ytlelfapmleopaaa.Am
open Go.Proofs.Ytlelfapmleopaaa.A1
open Go.Proofs.Ytlelfapmleopaaa.A2
open Go.Proofs.Ytlelfapmleopaaa.A3
open Go.Proofs.Ytlelfapmleopaaa.Hs
open Go.Proofs.Ytlelfapmleopaaa.Q1 (okQ putQ)
open Go.Proofs.Ytlelfapmleopaaa.Z1 (okP putP)
open Go.Proofs.Ytlelfapmleopaaa.Y1 (okE putE)
set_option linter.unusedVariables false
set_option maxRecDepth 100000
set_option maxHeartbeats 6400000 in
theorem rencode_any (a : Option Addr) (c : Nat) (l : List M) (w : World) (hl : MRow w a l) (hs : ∀ m ∈ l, Sm m) (hn : l.length ≤ 1000) :
    Calls Try.prog 14 #[.slice a l.length c] w (AnsE (encL l) w) := by
  have HMr := Lib.hid (fun (W : World) (h : Below w.heap.size w W) => hl.below h)
  have HSh := Lib.hid hs
  clear hs hl
  go_enter Try.func14, Try.ntmps14
  go_upto_region 2 with fail
  go_loopw [5] (fun i wr => ∃ k : Nat, k ≤ l.length ∧ i = .int .i64 k ∧ Hid (∀ i (hi : i < l.length), i < k → okA l[i] = true) ∧ Hid (Below w.heap.size w wr)) (fun i _ => l.length - (intOf i).toNat)
  case atStart => exact ⟨0, Nat.zero_le _, rfl, Lib.hid (fun i _ hi => absurd hi (by omega)), Lib.hid (Below.refl _ _)⟩
  case round =>
    obtain ⟨k, hk, rfl, HT, HB⟩ := hrel
    by_cases hlt : k < l.length
    · have hrow := HMr.out _ HB.out
      have hin := row_in hrow HSh.out hlt
      obtain ⟨p, rfl, _, hc, _, _⟩ := hrow k hlt
      have P := Lib.hid (rright_any l[k] wr hin (HSh.out _ (List.getElem_mem hlt)).2.2)
      have HI := Lib.hid (fun (h : okA l[k] = false) => enc_wrong hlt HT.out h)
      have HJ := Lib.hid (fun (h : okA l[k] = true) => show ∀ i (hi : i < l.length), i < k + 1 → okA l[i] = true from fun i h1 hi => by
        by_cases hik : i < k
        · exact HT.out i h1 hik
        · obtain rfl : i = k := by omega
          exact h)
      have HC := Lib.hid hc
      have ixk := indexM p l.length c k hlt
      clear hrow hin hc HT
      generalize l[k] = u at *
      generalize okA u = x at *
      cases x
      · have HZ := Lib.hid (HI.out rfl)
        clear HI HJ
        go_wp2_with (first | (refine wpList_loadA (m := u) rfl _ rfl rfl HC.out ?_))
        refine P.out.mono ?_
        rintro e w1 ⟨rfl, hb1⟩
        go_wp2
        go_ret3
        exact AnsE.of HZ.out (bcall HB.out hb1)
      · have HZ := Lib.hid (HJ.out rfl)
        clear HI HJ
        go_wp2_with (first | (refine wpList_loadA (m := u) rfl _ rfl rfl HC.out ?_))
        refine P.out.mono ?_
        rintro e w1 ⟨rfl, hb1⟩
        have HB1 := Lib.hid (bcall HB.out hb1)
        clear hb1
        go_wp2
        go_roundw
        case rel => exact ⟨k + 1, hlt, by go_num, HZ, HB1⟩
        case measure => simp [intOf]; omega
    obtain rfl : k = l.length := by omega
    clear hk
    have hw := fun i hi => HT.out i hi hi
    rcases (show l.length = 0 ∨ 1 < l.length ∨ l.length = 1 by omega) with h0 | h0 | h0
    · have HZ := Lib.hid (enc_none h0)
      have e0 : ((l.length : Int) == 0) = true := by rw [beq_iff_eq]; omega
      clear h0 hw
      go_wp2
      go_ret3
      exact AnsE.of HZ.out HB.out
    · have HZ := Lib.hid (enc_more hw h0)
      have e0 : ((l.length : Int) == 0) = false := by rw [beq_eq_false_iff_ne]; omega
      have e1 : (1 : Int) < (l.length : Int) := by omega
      clear h0 hw
      go_wp2
      go_ret3
      exact AnsE.of HZ.out HB.out
    obtain ⟨m, rfl⟩ := List.length_eq_one_iff.1 h0
    have hok : okA m = true := hw 0 (by simp)
    have hsm := HSh.out m (by simp)
    have HIn := Lib.hid (fun (W : World) (h : Below w.heap.size w W) => show m.In W from row_in (HMr.out W h) HSh.out (k := 0) (by simp))
    have P1 := Lib.hid (fun V (h : m.In V) => Q5.rput_any m V h hsm.2.1 hsm.2.2)
    have P2 := Lib.hid (fun V (h : m.In V) => Z5.rput_any m V h hsm.2.1 hsm.2.2)
    have P3 := Lib.hid (fun V (h : m.In V) => Y5.rput_any m V h hsm.2.1 hsm.2.2)
    have HY := Lib.hid (fun h => enc_long hok h)
    have HN := Lib.hid (fun h => enc_one hok h)
    have hmost : (encA m).size ≤ 600000 := enc_most hsm.2.1
    have HCs := Lib.hid (ok_cases hok)
    obtain ⟨p, rfl, _, _, _, _⟩ := HMr.out _ HB.out 0 (by simp)
    have HC := Lib.hid (fun (W : World) (h : Below w.heap.size w W) => show ∀ j v, (m.cells.toList)[j]? = some v → W.cell? (p.add j) = some v by
      obtain ⟨p2, hp2, _, hc, _, _⟩ := HMr.out W h 0 (by simp)
      obtain rfl : p = p2 := by simpa using hp2
      intro j v hv
      have := hc j v hv
      rw [Nat.zero_mul, show p.add 0 = p by cases p; rfl] at this
      exact this)
    have ix0 : ∀ W, (Instr.indexAt 23 (.slice (some p) 1 c) (.int .i64 0)).run Try.prog W = .ok (.pointer (some p)) W := fun W => by
      have := indexM p 1 c 0 (by decide) W
      rw [Nat.zero_mul, show p.add 0 = p by cases p; rfl] at this
      exact this
    clear hw hsm hok h0 HT HSh HMr
    rcases HCs.out with ⟨k3, ho, he⟩ | ⟨k3, ho, he⟩ | ⟨k3, ho, he⟩
    · rw [ho, ← he] at P1
      clear ho he HCs k3
      generalize encA m = y at *
      go_wp2_with (first | (refine wpList_loadA (m := m) rfl _ rfl rfl (HC.out _ HB.out) ?_))
      refine (P1.out _ (HIn.out _ HB.out)).mono ?_
      rintro e w2 ⟨rfl, hb2⟩
      have HB := Lib.hid (bcall HB.out hb2)
      clear hb2
      clear HIn HC P1 P2 P3 ix0
      by_cases hz : 65535 < y.size
      · have HZ := Lib.hid (HY.out hz)
        have hz1 : (65535 : Int) < (y.size : Int) := by omega
        go_wp2
        go_ret3
        exact AnsE.of HZ.out HB.out
      · have HZ := Lib.hid (HN.out hz)
        have hz1 : ¬ (65535 : Int) < (y.size : Int) := by omega
        go_wp2
        go_ret3
        exact AnsE.of HZ.out HB.out
    · rw [ho, ← he] at P2
      have h1 : okQ m = false := noQ (by omega)
      rw [h1, Q1.putQ_no h1] at P1
      clear ho he HCs k3 h1
      generalize encA m = y at *
      go_wp2_with (first | (refine wpList_loadA (m := m) rfl _ rfl rfl (HC.out _ HB.out) ?_))
      refine (P1.out _ (HIn.out _ HB.out)).mono ?_
      rintro e w2 ⟨rfl, hb2⟩
      have HB := Lib.hid (bcall HB.out hb2)
      clear hb2
      go_wp2_with (first | (refine wpList_loadA (m := m) rfl _ rfl rfl (HC.out _ HB.out) ?_))
      refine (P2.out _ (HIn.out _ HB.out)).mono ?_
      rintro e w2 ⟨rfl, hb2⟩
      have HB := Lib.hid (bcall HB.out hb2)
      clear hb2
      clear HIn HC P1 P2 P3 ix0
      by_cases hz : 65535 < y.size
      · have HZ := Lib.hid (HY.out hz)
        have hz1 : (65535 : Int) < (y.size : Int) := by omega
        go_wp2
        go_ret3
        exact AnsE.of HZ.out HB.out
      · have HZ := Lib.hid (HN.out hz)
        have hz1 : ¬ (65535 : Int) < (y.size : Int) := by omega
        go_wp2
        go_ret3
        exact AnsE.of HZ.out HB.out
    · rw [ho, ← he] at P3
      have h1 : okQ m = false := noQ (by omega)
      have h2 : okP m = false := noP (by omega) (by omega)
      rw [h1, Q1.putQ_no h1] at P1
      rw [h2, Z1.putP_no h2] at P2
      clear ho he HCs k3 h1 h2
      generalize encA m = y at *
      go_wp2_with (first | (refine wpList_loadA (m := m) rfl _ rfl rfl (HC.out _ HB.out) ?_))
      refine (P1.out _ (HIn.out _ HB.out)).mono ?_
      rintro e w2 ⟨rfl, hb2⟩
      have HB := Lib.hid (bcall HB.out hb2)
      clear hb2
      go_wp2_with (first | (refine wpList_loadA (m := m) rfl _ rfl rfl (HC.out _ HB.out) ?_))
      refine (P2.out _ (HIn.out _ HB.out)).mono ?_
      rintro e w2 ⟨rfl, hb2⟩
      have HB := Lib.hid (bcall HB.out hb2)
      clear hb2
      go_wp2_with (first | (refine wpList_loadA (m := m) rfl _ rfl rfl (HC.out _ HB.out) ?_))
      refine (P3.out _ (HIn.out _ HB.out)).mono ?_
      rintro e w2 ⟨rfl, hb2⟩
      have HB := Lib.hid (bcall HB.out hb2)
      clear hb2
      clear HIn HC P1 P2 P3 ix0
      by_cases hz : 65535 < y.size
      · have HZ := Lib.hid (HY.out hz)
        have hz1 : (65535 : Int) < (y.size : Int) := by omega
        go_wp2
        go_ret3
        exact AnsE.of HZ.out HB.out
      · have HZ := Lib.hid (HN.out hz)
        have hz1 : ¬ (65535 : Int) < (y.size : Int) := by omega
        go_wp2
        go_ret3
        exact AnsE.of HZ.out HB.out
end Go.Proofs.Ytlelfapmleopaaa.A4
