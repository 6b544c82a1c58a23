/-
  OctetTells, of any two numbers and every text: what the program answers is what the document answers. No condition.
-/
import Derived.Test.YtgofhadpoelmiaaAwake
import Derived.WalkKit
import Derived.ProofKit
import Derived.OpenShut
import Derived.ShutString
namespace Go.Proofs.Ytgofhadpoelmiaa.octetTells
open Go.ChangeShapes Go.WideShapes Go.ChangeAt Go.RowKit
open Go.ChangeMaps (open_string shut_string)
open Go.Proofs.Ytgofhadpoelmiaa.Oct
set_option linter.unusedVariables false      -- a walk need not use every 'w<i>' (that an integer argument fits its kind)

theorem own : ownKnob Try.prog.godebug = none := by kernel_rfl

theorem put_both (n k : Int) : ∃ (s : ByteArray) (b : Bool), (∀ w : World, Calls Try.prog 7 #[.int .i64 n, .int .i64 k] w fun e w' => e = .returned (.tuple #[.string s, .bool b]) ∧ Below w.heap.size w w') ∧ (∀ w : World, Calls Try.prog 8 #[.int .i64 n, .int .i64 k] w fun e w' => e = .returned (.tuple #[.string s, .bool b]) ∧ Below w.heap.size w w') := by
  by_cases hf : fitsB n k = true
  · obtain ⟨h1, h2, h3, h4⟩ := (fitsB_iff n k).1 hf
    obtain ⟨n, rfl⟩ := Int.eq_ofNat_of_zero_le h3
    obtain ⟨k, rfl⟩ := Int.eq_ofNat_of_zero_le (show 0 ≤ k by omega)
    refine ⟨_, _, fun w => put_yes n k w (by omega) (by omega) (by simpa using h4), fun w => rput_yes n k w (by omega) (by omega) (by simpa using h4)⟩
  · exact ⟨_, _, fun w => put_no n k w (by simpa using hf), fun w => rput_no n k w (by simpa using hf)⟩

theorem zeros_both (n : Int) (h : n ≤ 2000) : ∃ (s : ByteArray), (∀ w : World, Calls Try.prog 13 #[.int .i64 n] w fun e w' => e = .returned (.string s) ∧ Below w.heap.size w w') ∧ (∀ w : World, Calls Try.prog 14 #[.int .i64 n] w fun e w' => e = .returned (.string s) ∧ Below w.heap.size w w') := by
  by_cases h0 : n < 0
  · exact ⟨_, fun w => zeros_none n w h0, fun w => rzeros_none n w h0⟩
  · obtain ⟨n, rfl⟩ := Int.eq_ofNat_of_zero_le (show 0 ≤ n by omega)
    exact ⟨_, fun w => zeros_mid n w (by omega), fun w => rzeros_mid n w (by omega)⟩

set_option maxHeartbeats 800000 in
theorem walk_long (a0 : Int) (a1 : Int) (a2 : ByteArray) (w2 : a2.size ≤ maxLen) (w : World) (h : 300 < a2.size) :
    Calls Try.prog 3 #[.int .i64 a0, .int .i64 a1, .string a2] w fun e w' => e = .returned (.bool true) ∧ Below w.heap.size w w' := by
  have hm := w2
  unfold maxLen at hm
  go_enter Try.func3, Try.ntmps3
  go_wp2_with fail
  refine (awake_any _).mono ?_
  rintro e w1 ⟨rfl, hb1⟩
  go_wp2
  go_ret
  exact ⟨rfl, hb1⟩

set_option maxHeartbeats 1600000 in
theorem walk_short (a0 : Int) (a1 : Int) (a2 : ByteArray) (w2 : a2.size ≤ maxLen) (w : World) (h : ¬ 300 < a2.size) :
    Calls Try.prog 3 #[.int .i64 a0, .int .i64 a1, .string a2] w fun e w' => e = .returned (.bool true) ∧ Below w.heap.size w w' := by
  have hm := w2
  unfold maxLen at hm
  obtain ⟨s, b, P1, P2⟩ := put_both a0 a1
  go_enter Try.func3, Try.ntmps3
  go_wp2_with fail
  refine (P1 _).mono ?_
  rintro e w3 ⟨rfl, hb1⟩
  go_wp2_with fail
  refine (P2 _).mono ?_
  rintro e w4 ⟨rfl, hb2⟩
  replace hb2 := bcall hb1 hb2
  clear hb1
  go_wp2_with fail
  refine (awake_any _).mono ?_
  rintro e w5 ⟨rfl, hb3⟩
  replace hb3 := bcall hb2 hb3
  clear hb2 P1 P2
  go_wp2_with fail
  refine (fits_any _ _ _).mono ?_
  rintro e w6 ⟨rfl, rfl⟩
  go_wp2_with fail
  refine (rfits_any _ _ _).mono ?_
  rintro e w6 ⟨rfl, rfl⟩
  go_wp2_with fail
  refine (zero_any _ _ w2).mono ?_
  rintro e w6 ⟨rfl, rfl⟩
  go_wp2_with fail
  refine (rzero_any _ _ w2).mono ?_
  rintro e w6 ⟨rfl, rfl⟩
  by_cases hn : 2000 < a0
  · go_wp2
    go_ret
    exact ⟨rfl, hb3⟩
  · obtain ⟨z, Z1, Z2⟩ := zeros_both a0 (by omega)
    go_wp2_with fail
    refine (Z1 _).mono ?_
    rintro e w6 ⟨rfl, hb4⟩
    replace hb4 := bcall hb3 hb4
    clear hb3
    go_wp2_with fail
    refine (Z2 _).mono ?_
    rintro e w7 ⟨rfl, hb5⟩
    replace hb5 := bcall hb4 hb5
    clear hb4 Z1 Z2
    go_wp2
    go_ret
    exact ⟨rfl, hb5⟩

theorem walk (a0 : Int) (a1 : Int) (a2 : ByteArray) (w0 : (Lit.int .i64 a0).wf = true) (w1 : (Lit.int .i64 a1).wf = true) (w2 : a2.size ≤ maxLen) (w : World) :
    Calls Try.prog 3 #[.int .i64 a0, .int .i64 a1, .string a2] w fun e w' => e = .returned (.bool true) ∧ Below w.heap.size w w' := by
  by_cases h : 300 < a2.size
  · exact walk_long a0 a1 a2 w2 w h
  · exact walk_short a0 a1 a2 w2 w h

set_option maxRecDepth 100000 in
theorem lifted (os : Os) (started : os.Started) (H : Type) (enc : TypeId × Value → H) :
    ReturnsInHanded {} Try.checked os 3 .any (Rows.octetTellsSpec.pre6 enc Try.prog Try.f3 Rows.octetTellsRow.domain false) (Rows.octetTellsSpec.post enc Try.prog Try.f3 false true false false) := by
  refine returnsInHanded_of_change (C := Try.checked) own started (by kernel_rfl) Try.func3
    (ChangeSpec.witness6 (enc := enc) (C := Try.checked) false ⟨#[], #[.int .i64 0, .int .i64 0, .string ByteArray.empty], []⟩ 8 (by kernel_rfl) (by kernel_rfl) (by kernel_rfl) (by kernel_rfl)) ?_
  intro W base args ds gs before hval0 hW hcnd _
  have hval : ∀ (j : Nat) t v, Try.f3.params[j]? = some t → args[j]? = some v → Value.okWide Try.prog W .any base t v := hval0
  have hW' := hW
  obtain ⟨p, q, hA0, hV, rfl, hfz, hnd⟩ := hW
  have hA : DataW.TrodAll enc Try.prog W 0 (fun _ => true) true Try.f3.params.toList args.toList ds p := hA0
  rw [Try.params3] at hA hval
  obtain ⟨v0, vs0, d0, ds0, p0, q0, hargs, rfl, rfl, h0, r0⟩ := trodAll_cons hA
  obtain ⟨v1, vs1, d1, ds1, p1, q1, rfl, rfl, rfl, h1, r1⟩ := trodAll_cons r0
  obtain ⟨v2, vs2, d2, ds2, p2, q2, rfl, rfl, rfl, h2, r2⟩ := trodAll_cons r1
  obtain ⟨rfl, rfl, rfl⟩ := trodAll_nil r2
  obtain rfl : args = #[v0, v1, v2] := by cases args; simp_all
  obtain ⟨rfl, rfl⟩ := trodVars_none hV
  obtain ⟨a0, rfl, rfl, rfl, w0⟩ := open_int Try.underlying3 (hval 0 3 v0 rfl rfl) h0
  obtain ⟨a1, rfl, rfl, rfl, w1⟩ := open_int Try.underlying3 (hval 1 3 v1 rfl rfl) h1
  obtain ⟨a2, rfl, rfl, rfl, w2⟩ := open_string Try.underlying9 (hval 2 9 v2 rfl rfl) h2
  clear hA0 hval0
  simp only [List.append_nil] at hW'
  refine (walk a0 a1 a2 w0 w1 w2 W).mono fun e W' ⟨he, hg⟩ => ?_
  subst he
  exact ⟨_, rfl, _, _, _, [], _, [], hW', trodAll_mk1 (shut_bool Try.underlying4 _), (trodAll_cons_mk (shut_int Try.underlying3 w0) (trodAll_cons_mk (shut_int Try.underlying3 w1) (trodAll_cons_mk (shut_string Try.underlying9 w2) trodAll_mk0))), rfl, hg.frame _, fun h => by cases h⟩

theorem over : Rows.octetTellsRow.holds Try.pinned (OpenSpec.ofChange Rows.octetTellsSpec) :=
  OpenClaim.holds_of_wide 3 Try.f3 rfl rfl rfl rfl rfl rfl rfl ⟨rfl, rfl, rfl, rfl, rfl⟩ rfl rfl rfl rfl rfl (by kernel_rfl) Try.func3 (by kernel_rfl)
    (of_decide_eq_true (by kernel_rfl)) (by unfold Func.isWrapper; first | (rw [if_pos (by decide +kernel)]; kernel_rfl) | (rw [if_neg (by decide +kernel)]; exact ⟨rfl, rfl⟩))
    (fun os started H enc _ => lifted os started H enc)

theorem proved : Rows.OctetTellsSaid :=
  over
#print axioms proved
end Go.Proofs.Ytgofhadpoelmiaa.octetTells
