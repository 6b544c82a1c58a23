/-
  The document's example for datagrams of RIP holds. No conditions.
-/
import Derived.Test.YtfaobpmbiocafaaAk
namespace Go.Proofs.Ytfaobpmbiocafaa.Aw
open Go.ChangeShapes Go.WideShapes Go.ChangeAt Go.RowKit
open Go.Proofs.Ytfaobpmbiocafaa.Ms
open Go.Proofs.Ytfaobpmbiocafaa.Rp
open Go.Proofs.Ytfaobpmbiocafaa.Ps
open Go.Proofs.Ytfaobpmbiocafaa.Es
open Go.Proofs.Ytfaobpmbiocafaa.Ak
open Go.Proofs.Ytfaobpmbiocafaa.Ec
open Go.Proofs.Ytfaobpmbiocafaa.Rr
open Go.Proofs.Ytfaobpmbiocafaa.Pa
open Go.Proofs.Ytfaobpmbiocafaa.All
open Go.Proofs.Ytfaobpmbiocafaa.Or (st_yes)
set_option linter.unusedVariables false
set_option maxRecDepth 100000

theorem parse_ex (w : World) : Calls Try.prog 8 #[.string exB] w fun e w' => ∃ p c, e = .returned (.tuple #[.slice (some p) 1 c, .int .i64 0, .int .i64 0]) ∧ MRow w' (some p) [exM] ∧ Below w.heap.size w w' := by
  refine (parse_any exB w (by decide)).mono ?_
  rw [ex_out]
  rintro e w' ⟨a, c, rfl, hm, hb⟩
  obtain ⟨p, rfl, _⟩ := hm 0 (by decide)
  exact ⟨p, c, rfl, hm, hb⟩
theorem encode_ex (p : Addr) (c : Nat) (w : World) (h : MRow w (some p) [exM]) : Calls Try.prog 14 #[.slice (some p) 1 c] w fun e w' => e = .returned (.tuple #[.string exB, .int .i64 0, .int .i64 0]) ∧ Below w.heap.size w w' := by
  have := encode_any (some p) c [exM] w h (fun m hm => by
    obtain rfl : m = exM := by simpa using hm
    exact ⟨Nat.zero_le _, Nat.zero_le _⟩) (by decide)
  rw [ex_enc] at this
  exact this
theorem right_ex (w : World) : Calls Try.prog 12 #[.agg exM.cells] w fun e w' => e = .returned (.bool true) ∧ Below w.heap.size w w' := by
  have := Rt.right_any exM w ⟨DRow.nil _ _, SRow.nil _ _, Nat.zero_le _, Nat.zero_le _⟩
  rw [ex_right] at this
  exact this

set_option maxHeartbeats 3200000 in
theorem awake_any (w : World) : Calls Try.prog 7 #[] w fun e w' => e = .returned (.bool true) ∧ Below w.heap.size w w' := by
  have P1 := Lib.hid (fun W => parse_ex W)
  have P2 := Lib.hid (fun p c W h => encode_ex p c W h)
  have P3 := Lib.hid (fun W => right_ex W)
  have HX : Hid (exB = ⟨#[2, 2, 0, 0, 0, 2, 0, 7, 10, 0, 0, 0, 255, 0, 0, 0, 0, 0, 0, 0, 0, 0, 0, 3]⟩) := Lib.hid rfl
  go_enter Try.func7, Try.ntmps7
  change Code.wp _ _ _ _ _
  go_wp2_with fail
  refine (P1.out _).mono ?_
  rintro e w1 ⟨p, c, rfl, hm, hb⟩
  have HM := Lib.hid hm
  clear hm
  go_wp2_with fail
  refine (P2.out p c _ HM.out).mono ?_
  rintro e w2 ⟨rfl, hb2⟩
  have bel := bcall hb hb2
  have hm2 := HM.out.below hb2
  clear hb hb2 HM
  obtain ⟨p2, hp2, hlt, hc, _, _⟩ := hm2 0 (by decide)
  obtain rfl : p = p2 := by simpa using hp2
  have ix0 : ∀ W, (Instr.indexAt 23 (.slice (some p) 1 c) (.int .i64 0)).run Try.prog W = .ok (.pointer (some p)) W := fun W => indexM p 1 c 0 (by decide) W
  have HC : Hid (∀ j v, (exM.cells.toList)[j]? = some v → w2.cell? (p.add j) = some v) := Lib.hid hc
  have c7 : w2.cell? ⟨p.block, p.off + 7, none⟩ = some (.int .i64 8) := HC.out 7 _ rfl
  have c8 : w2.cell? ⟨p.block, p.off + 8, none⟩ = some (.int .i64 7) := HC.out 8 _ rfl
  have c10 : w2.cell? ⟨p.block, p.off + 10, none⟩ = some (.int .i64 3) := HC.out 10 _ rfl
  have hx : (exB.toList == [2, 2, 0, 0, 0, 2, 0, 7, 10, 0, 0, 0, 255, 0, 0, 0, 0, 0, 0, 0, 0, 0, 0, 3]) = true := by rw [ByteArray.toList_eq]; rfl
  clear hm2 hp2 hc
  go_wp2_with (first | (refine st_yes (v := .agg (M.cells exM)) (by rfl) rfl (ex_loadA (m := exM) (q := p) (x := .tmp 63) rfl rfl HC.out) ?_))
  refine (P3.out _).mono ?_
  rintro e w3 ⟨rfl, hb⟩
  have bel := bcall bel hb
  clear hb c7 c8 c10 HC ix0
  go_wp2
  go_ret
  exact ⟨rfl, bel⟩
end Go.Proofs.Ytfaobpmbiocafaa.Aw
