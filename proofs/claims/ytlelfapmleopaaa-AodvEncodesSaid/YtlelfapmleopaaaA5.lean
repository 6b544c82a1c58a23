/-
  The document's example of AODV's datagrams. No conditions.
-/
import Derived.Test.YtlelfapmleopaaaA3
namespace Go.Proofs.Ytlelfapmleopaaa.A5
open Go.ChangeShapes Go.WideShapes Go.ChangeAt Go.RowKit
open Go.Proofs.Ytlelfapmleopaaa.Ms
open Go.Proofs.Ytlelfapmleopaaa.Box
open Go.Proofs.Ytlelfapmleopaaa.Xv
open Go.Proofs.Ytlelfapmleopaaa.All
open Go.Proofs.Ytlelfapmleopaaa.Am
open Go.Proofs.Ytlelfapmleopaaa.A1
open Go.Proofs.Ytlelfapmleopaaa.A2
open Go.Proofs.Ytlelfapmleopaaa.A3
open Go.Proofs.Ytlelfapmleopaaa.Hs
open Go.Proofs.Ytlelfapmleopaaa.Or (st_yes)
set_option linter.unusedVariables false
set_option maxRecDepth 100000
def exA : ByteArray := ⟨#[5, 0]⟩
def exB : ByteArray := ⟨#[4, 0]⟩
theorem exA_out : outA exA = ([], 0, 4) := out_kind (by decide) (by decide) (.inr (by decide))
theorem exB_out : ∃ m, outA exB = ([m], 0, 0) ∧ okA m = true ∧ encA m = exB ∧ m.ll.length ≤ 255 ∧ m.sl.length ≤ 2 := by
  have h4 : bt exB 0 = 4 := by decide
  have hP : Z1.outP exB = ({ Z1.ackM with sl := [] }, 0, 0) := Z1.out_yes (Z1.head_ack h4 (by decide) (by decide)) (Xv.out_yes (l := []) rfl (by decide))
  obtain ⟨k1, k2, _⟩ := Z6.out_put (s := exB) (by rw [hP]) (.inr h4)
  rw [hP] at k1 k2
  exact ⟨_, A1.out_yes (by decide) (by decide) (by decide) ((out1_P (.inr h4)).trans hP), by unfold okA; rw [k1]; simp, by rw [encA_P k1]; exact k2, by decide, by decide⟩
theorem bytes_same (a : ByteArray) : (a.toList == a.toList) = true := by simp
set_option maxHeartbeats 6400000 in
theorem awake_any (w : World) : Calls Try.prog 6 #[] w fun e w' => e = .returned (.bool true) ∧ Below w.heap.size w w' := by
  have P1 := Lib.hid (fun W => parse_any exA W (by decide))
  rw [exA_out] at P1
  have P2 := Lib.hid (fun W => parse_any exB W (by decide))
  obtain ⟨m, ho, hok, he, hl1, hl2⟩ := exB_out
  rw [ho] at P2
  have hsm : Sm m := ok_sm hok hl1 (by omega)
  have HS := Lib.hid (fun (n : M) (hn : Pl n m) => hsm.pl hn)
  have HE := Lib.hid (fun (n : M) (hn : Pl n m) => show encL [n] = (exB, 0, 0) by
    rw [enc_one ((ok_pl hn).trans hok) (by rw [enc_pl hn, he]; decide), enc_pl hn, he])
  have HK := Lib.hid (fun (n : M) (hn : Pl n m) => (ok_pl hn).trans hok)
  clear ho hok he hl1 hl2 hsm
  unfold exA at P1
  unfold exB at P2 HE
  have e2 := bytes_same ⟨#[4, 0]⟩
  go_enter Try.func6, Try.ntmps6
  go_wp2_with fail
  refine (P1.out _).mono ?_
  intro r w1 hr
  obtain ⟨a1, c1, rfl, hb⟩ := hr.at_nil
  clear hr
  go_wp2_with fail
  refine (P2.out _).mono ?_
  intro r w2 hr
  obtain ⟨a2, c2, n, rfl, hn, hrow, hb2⟩ := hr.at_one
  have HB := Lib.hid (bcall hb hb2)
  have HS := HS.out n hn
  have HRow := Lib.hid hrow
  have PE := Lib.hid (fun W (h : MRow W a2 [n]) => encode_one a2 c2 n W h HS)
  rw [HE.out n hn] at PE
  have PR := Lib.hid (fun W (h : n.In W) => right_any n W h HS.2.2)
  rw [HK.out n hn] at PR
  have HI := Lib.hid (fun (W : World) (h : MRow W a2 [n]) => show n.In W from row_in h (sm_one HS) (k := 0) (by simp))
  clear hr hb hb2 hrow P1 P2 HE HK HS hn
  go_wp2_with fail
  refine (PE.out _ HRow.out).mono ?_
  rintro r w3 ⟨rfl, hb⟩
  have HB := Lib.hid (bcall HB.out hb)
  have HRow := Lib.hid (HRow.out.below hb)
  clear hb PE
  dsimp only
  obtain ⟨p, rfl, hc⟩ := row_at HRow.out
  have HC := Lib.hid hc
  have ix0 := index_one p c2
  have HI := Lib.hid (HI.out _ HRow.out)
  clear hc HRow
  go_wp2_with (first | (refine st_yes (v := .agg (M.cells n)) (by rfl) rfl (ex_loadA (x := .tmp 51) rfl rfl HC.out) ?_))
  refine (PR.out _ HI.out).mono ?_
  rintro r w4 ⟨rfl, hb⟩
  have HB := Lib.hid (bcall HB.out hb)
  clear hb
  go_wp2
  go_ret
  exact ⟨rfl, HB.out⟩
end Go.Proofs.Ytlelfapmleopaaa.A5
