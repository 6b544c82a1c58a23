/-
  The document's own: a number's bytes, a route's entry. Condition: the entry's texts no longer than a text may be.
-/
import Derived.Test.YtfaobpmbiocafaaWr
namespace Go.Proofs.Ytfaobpmbiocafaa.Rl
open Go.ChangeShapes Go.WideShapes Go.ChangeAt Go.RowKit
open Go.Proofs.Ytfaobpmbiocafaa.Ms
open Go.Proofs.Ytfaobpmbiocafaa.Box
open Go.Proofs.Ytfaobpmbiocafaa.Rp
open Go.Proofs.Ytfaobpmbiocafaa.Ps
open Go.Proofs.Ytfaobpmbiocafaa.Es
open Go.Proofs.Ytfaobpmbiocafaa.Rt (boxed)
open Go.Proofs.Ytfaobpmbiocafaa.Wr
open Go.Proofs.Ytfaobpmbiocafaa.Bk (E Bk shE)
set_option linter.unusedVariables false
set_option maxRecDepth 100000

set_option maxHeartbeats 1600000 in
theorem of_any (n : Int) (k : Nat) (ki : Int) (hk : ki = k) (h1 : 1 ≤ k) (h7 : k ≤ 7) (w : World) : Calls Try.prog 37 #[.int .i64 n, .int .i64 ki] w fun e w' => e = .returned (.string ⟨(Ent.layN n k).toArray⟩) ∧ Below w.heap.size w w' := by
  have P1 := Lib.hid (fun W => Ent.octet_any n k ki hk h1 h7 W)
  clear hk h1 h7
  generalize Ent.layN n k = t at *
  generalize Oct.fitsB n k = x at *
  go_enter Try.func37, Try.ntmps37
  go_wp2_with fail
  refine (P1.out _).mono ?_
  rintro e w1 ⟨rfl, hb⟩
  go_wp2
  go_ret
  exact ⟨rfl, hb⟩

set_option maxHeartbeats 3200000 in
theorem line_any (m : M) (w : World) (hm : Ent.OkE (entryM m)) : Calls Try.prog 39 #[.agg m.cells] w fun e w' => e = .returned (.string (Ent.putE (entryM m))) ∧ Below w.heap.size w w' := by
  obtain ⟨b0, bel⟩ := boxed w m
  have P0 := Lib.hid (fun W => Rn.nought_any W)
  have P1 := Lib.hid (fun W => Mask.rof_any m.plen W)
  have HE := Lib.hid (show entryM m = ⟨m.family, m.tag, m.pfx, maskM m, m.next, m.metric⟩ from rfl)
  have HA := Lib.hid (show maskM m = if m.family = 2 ∧ m.ver = 2 then Mask.ofB m.plen else ⟨#[0, 0, 0, 0]⟩ from rfl)
  have P2 := Lib.hid (fun W => Ent.rput_any (entryM m) W hm)
  rw [HE.out] at P2
  clear hm
  have HZ0 := Lib.hid (show Ent.putE (entryM m) = Ent.putE ⟨m.family, m.tag, m.pfx, maskM m, m.next, m.metric⟩ from rfl)
  generalize Ent.putE (entryM m) = out at *
  generalize maskM m = mk at *
  go_enter Try.func39, Try.ntmps39
  go_upto_region 1 with fail
  generalize w.alloc (.cells m.cells 34) = V at *
  go_wp2_with fail
  refine (P0.out _).mono ?_
  rintro e w1 ⟨rfl, rfl⟩
  have c2 := b0.cs.c2
  have c4 := b0.cs.c4
  have c7 := b0.cs.c7
  have B0 := Lib.hid b0
  clear b0
  by_cases h12 : m.family = 2 ∧ m.ver = 2
  case' pos =>
    have HZ := Lib.hid (show mk = Mask.ofB m.plen by rw [HA.out, if_pos h12])
    have e1 : (m.family == 2) = true := by simpa using h12.1
    have e3 : (m.ver == 2) = true := by simpa using h12.2
    clear HA h12
    have hz := HZ.out
    subst hz
    generalize Mask.ofB m.plen = mk at *
    generalize Mask.isLen m.plen = tb at *
    go_wp2_with fail
    refine (P1.out _).mono ?_
    rintro e w1 ⟨rfl, hb⟩
    have bel := bcall bel hb
    have B1 := Lib.hid (B0.out.below hb)
    clear hb c2 c4 c7 B0 HZ
    go_upto_region 4 with fail
    clear e1 e3
  case' neg =>
    have HZ := Lib.hid (show mk = ⟨#[0, 0, 0, 0]⟩ by rw [HA.out, if_neg h12])
    have hz := HZ.out
    subst hz
    have HH := Lib.hid h12
    rcases (show m.family ≠ 2 ∨ m.family = 2 by omega) with h1 | h1
    case' inl =>
      have e1 : (m.family == 2) = false := by simpa using h1
      clear h12 h1
      go_upto_region 4 with fail
      clear e1
    case' inr =>
      have h2 : m.ver ≠ 2 := fun h => h12 ⟨h1, h⟩
      have e1 : (m.family == 2) = true := by simpa using h1
      have e3 : (m.ver == 2) = false := by simpa using h2
      clear h12 h1 h2
      go_upto_region 4 with fail
      clear e1 e3
    all_goals
      have B1 := B0
      clear B0 c2 c4 c7 HH HZ HA
      generalize (⟨#[0, 0, 0, 0]⟩ : ByteArray) = mk at *
  all_goals
    obtain ⟨d0, d1, d2, d3, d4, d5, d6, d7, d8, d9, d10, _⟩ := B1.out.cs
    clear d0 d1 d2 d3 d5 d7 B1
    go_wp2_with (first | (refine Bk.wpList_builtK rfl 48 _ rfl (E.cells ⟨m.family, m.tag, m.pfx, mk, m.next, m.metric⟩) (by kernel_rfl) ?_))
    refine (P2.out _).mono ?_
    rintro e w2 ⟨rfl, hb⟩
    have bel := bcall bel hb
    clear hb d4 d6 d8 d9 d10
    go_wp2
    go_ret
    exact ⟨str_eq HZ0.out.symm, bel⟩
end Go.Proofs.Ytfaobpmbiocafaa.Rl
