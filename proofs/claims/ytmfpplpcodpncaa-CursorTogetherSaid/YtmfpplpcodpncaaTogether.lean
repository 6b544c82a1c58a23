/-
  CursorTogether, of every string and any two small numbers: what is taken one behind the other is what is taken together. No condition.
-/
import Derived.Test.YtmfpplpcodpncaaAwake
import Derived.WalkKit
import Derived.ProofKit
import Derived.OpenShut
import Derived.ShutString
namespace Go.Proofs.Ytmfpplpcodpncaa.cursorTogether
open Go.ChangeShapes Go.WideShapes Go.ChangeAt Go.RowKit
open Go.ChangeMaps (open_string shut_string)
open Go.Proofs.Ytmfpplpcodpncaa.Cur
set_option linter.unusedVariables false      -- a walk need not use every 'w<i>' (that an integer argument fits its kind)

theorem own : ownKnob Try.prog.godebug = none := by kernel_rfl

set_option maxHeartbeats 800000 in
theorem walk_long (s : ByteArray) (a b : Int) (w : World) (hs : s.size ≤ maxLen) (h : 300 < s.size) :
    Calls Try.prog 4 #[.string s, .int .u8 a, .int .u8 b] w fun e w' => e = .returned (.bool true) ∧ Below w.heap.size w w' := by
  have hm := hs
  unfold maxLen at hm
  go_enter Try.func4, Try.ntmps4
  go_wp2_with fail
  refine (awake_any _).mono ?_
  rintro e w1 ⟨rfl, hb1⟩
  go_wp2
  go_ret
  exact ⟨rfl, hb1⟩

theorem text_sum (s : ByteArray) (a b n : Nat) (w : World) (hs : s.size ≤ maxLen) (h2 : n ≤ s.size) (h3 : a + b ≤ n) :
    Calls Try.prog 14 #[.agg #[.string s, .int .i64 0, .int .i64 n, .bool false], .int .i64 ((a : Int) + b)] w fun e w' => e = .returned (.tuple #[.string (s.extract 0 (a + b)), .agg #[.string s, .int .i64 ((a : Int) + b), .int .i64 n, .bool false]]) ∧ Below w.heap.size w w' := by
  have h := text_yes s 0 n (a + b) w hs (by omega) h2 (by omega)
  rw [Nat.zero_add, show ((0 : Nat) : Int) + ((a + b : Nat) : Int) = (a : Int) + b from by omega, show ((a + b : Nat) : Int) = (a : Int) + b from by omega] at h
  exact h

set_option maxHeartbeats 800000 in
theorem walk_fits (s : ByteArray) (a b : Nat) (w : World) (hs : s.size ≤ maxLen) (h : s.size ≤ 300) (ha : a ≤ 255) (hb : b ≤ 255) (hab : a + b ≤ s.size) :
    Calls Try.prog 4 #[.string s, .int .u8 a, .int .u8 b] w fun e w' => e = .returned (.bool true) ∧ Below w.heap.size w w' := by
  have hm := hs
  unfold maxLen at hm
  have ka : wrap64 (a : Int) = a := IntWalk.wrap64_in _ (by omega)
  have kb : wrap64 (b : Int) = b := IntWalk.wrap64_in _ (by omega)
  go_enter Try.func4, Try.ntmps4
  go_wp2_with fail
  refine (new_any s _ hs).mono ?_
  rintro e w1 ⟨rfl, hb1⟩
  go_wp2_with fail
  have bel1 : Below w.heap.size w w1 := hb1
  clear hb1
  refine (text_yes s 0 s.size a _ hs (by omega) (by omega) (by omega)).mono ?_
  rintro e w2 ⟨rfl, hb2⟩
  have bel2 := bcall bel1 hb2
  clear hb2 bel1
  go_wp2_with fail
  have B0 : Box (w2.alloc (.cells #[.string s, .int .i64 a, .int .i64 s.size, .bool false] 23)) w2.heap.size s a s.size false := box_new _ _ _ _ _
  have bel3 : Below w.heap.size w (w2.alloc (.cells #[.string s, .int .i64 a, .int .i64 s.size, .bool false] 23)) := balloc bel2 _
  refine (text_yes s a s.size b _ hs (by omega) (by omega) (by omega)).mono ?_
  rintro e w3 ⟨rfl, hb3⟩
  have B1 := box_below B0 hb3
  have bel4 := bcall bel3 hb3
  clear B0 bel3 bel2 hb3
  generalize w2.heap.size = k2 at *
  go_wp2_with fail
  have B2 := box_new w3 s ((a : Int) + b) s.size false
  have B3 := box_old B1 (.cells #[.string s, .int .i64 ((a : Int) + b), .int .i64 s.size, .bool false] 23)
  have bel5 := balloc bel4 (.cells #[.string s, .int .i64 ((a : Int) + b), .int .i64 s.size, .bool false] 23)
  refine (new_any s _ hs).mono ?_
  rintro e w4 ⟨rfl, hb4⟩
  have C1 := box_below B2 hb4
  have C0 := box_below B3 hb4
  have bel6 := bcall bel5 hb4
  clear B1 B2 B3 bel4 bel5 hb4
  generalize w3.heap.size = k3 at *
  go_wp2_with fail
  refine (text_sum s a b s.size _ hs (by omega) hab).mono ?_
  rintro e w5 ⟨rfl, hb5⟩
  have D1 := box_below C1 hb5
  have D0 := box_below C0 hb5
  have bel7 := bcall bel6 hb5
  clear C1 C0 bel6 hb5
  go_wp2_with fail
  have E2 := box_new w5 s ((a : Int) + b) s.size false
  have E1 := box_old D1 (.cells #[.string s, .int .i64 ((a : Int) + b), .int .i64 s.size, .bool false] 23)
  have E0 := box_old D0 (.cells #[.string s, .int .i64 ((a : Int) + b), .int .i64 s.size, .bool false] 23)
  have bel8 := balloc bel7 (.cells #[.string s, .int .i64 ((a : Int) + b), .int .i64 s.size, .bool false] 23)
  refine (awake_any _).mono ?_
  rintro e w6 ⟨rfl, hb6⟩
  have F2 := box_below E2 hb6
  have F1 := box_below E1 hb6
  have F0 := box_below E0 hb6
  have bel9 := bcall bel8 hb6
  clear E0 E1 E2 D0 D1 bel7 bel8 hb6
  generalize w5.heap.size = k5 at *
  obtain ⟨⟨c10, c11, c12, c13⟩, f1, l1⟩ := F1
  obtain ⟨⟨c20, c21, c22, c23⟩, f2, l2⟩ := F2
  go_wp2_with fail
  have e1 : wrap64 ((s.size : Int) - ((a : Int) + (b : Int))) = (s.size : Int) - ((a : Int) + (b : Int)) := IntWalk.wrap64_in _ (by omega)
  refine (left_ok _ _ _ _).mono ?_
  rintro e w7 ⟨rfl, hb7⟩
  go_wp2_with fail
  go_ret
  exact ⟨rfl, bcall bel9 hb7⟩

theorem has_no (a n : Nat) (k : Int) (b : Bool) (h : b = true ∨ (n : Int) - a < k) : hasB a n k b = false := by
  unfold hasB
  rcases h with rfl | h
  · rfl
  · simp; omega

set_option maxHeartbeats 800000 in
theorem walk_over1 (s : ByteArray) (a b : Nat) (w : World) (hs : s.size ≤ maxLen) (h : s.size ≤ 300) (ha : a ≤ 255) (hb : b ≤ 255) (hab : s.size < a + b) (h1 : a ≤ s.size) :
    Calls Try.prog 4 #[.string s, .int .u8 a, .int .u8 b] w fun e w' => e = .returned (.bool true) ∧ Below w.heap.size w w' := by
  have hm := hs
  unfold maxLen at hm
  have ka : wrap64 (a : Int) = a := IntWalk.wrap64_in _ (by omega)
  have kb : wrap64 (b : Int) = b := IntWalk.wrap64_in _ (by omega)
  go_enter Try.func4, Try.ntmps4
  go_wp2_with fail
  refine (new_any s _ hs).mono ?_
  rintro e w1 ⟨rfl, hb1⟩
  go_wp2_with fail
  have bel1 : Below w.heap.size w w1 := hb1
  clear hb1
  refine (text_yes s 0 s.size a _ hs (by omega) (by omega) (by omega)).mono ?_
  rintro e w2 ⟨rfl, hb2⟩
  have bel2 := bcall bel1 hb2
  clear hb2 bel1
  go_wp2_with fail
  have B0 : Box (w2.alloc (.cells #[.string s, .int .i64 a, .int .i64 s.size, .bool false] 23)) w2.heap.size s a s.size false := box_new _ _ _ _ _
  have bel3 : Below w.heap.size w (w2.alloc (.cells #[.string s, .int .i64 a, .int .i64 s.size, .bool false] 23)) := balloc bel2 _
  refine (text_no s a s.size b false _ hs (by omega) (by omega) (has_no _ _ _ _ (.inr (by omega)))).mono ?_
  rintro e w3 ⟨rfl, hb3⟩
  have B1 := box_below B0 hb3
  have bel4 := bcall bel3 hb3
  clear B0 bel3 bel2 hb3
  generalize w2.heap.size = k2 at *
  go_wp2_with fail
  have B2 := box_new w3 s a s.size true
  have B3 := box_old B1 (.cells #[.string s, .int .i64 a, .int .i64 s.size, .bool true] 23)
  have bel5 := balloc bel4 (.cells #[.string s, .int .i64 a, .int .i64 s.size, .bool true] 23)
  refine (new_any s _ hs).mono ?_
  rintro e w4 ⟨rfl, hb4⟩
  have C1 := box_below B2 hb4
  have bel6 := bcall bel5 hb4
  clear B1 B2 B3 bel4 bel5 hb4
  generalize w3.heap.size = k3 at *
  go_wp2_with fail
  refine (text_no s 0 s.size ((a : Int) + b) false _ hs (by omega) (by omega) (has_no _ _ _ _ (.inr (by omega)))).mono ?_
  rintro e w5 ⟨rfl, hb5⟩
  have D1 := box_below C1 hb5
  have bel7 := bcall bel6 hb5
  clear C1 bel6 hb5
  go_wp2_with fail
  have E2 := box_new w5 s 0 s.size true
  have E1 := box_old D1 (.cells #[.string s, .int .i64 0, .int .i64 s.size, .bool true] 23)
  have bel8 := balloc bel7 (.cells #[.string s, .int .i64 0, .int .i64 s.size, .bool true] 23)
  refine (awake_any _).mono ?_
  rintro e w6 ⟨rfl, hb6⟩
  have F2 := box_below E2 hb6
  have F1 := box_below E1 hb6
  have bel9 := bcall bel8 hb6
  clear E1 E2 D1 bel7 bel8 hb6
  generalize w5.heap.size = k5 at *
  obtain ⟨⟨c10, c11, c12, c13⟩, f1, l1⟩ := F1
  obtain ⟨⟨c20, c21, c22, c23⟩, f2, l2⟩ := F2
  go_wp2
  go_ret
  exact ⟨rfl, bel9⟩

set_option maxHeartbeats 800000 in
theorem walk_over2 (s : ByteArray) (a b : Nat) (w : World) (hs : s.size ≤ maxLen) (h : s.size ≤ 300) (ha : a ≤ 255) (hb : b ≤ 255) (h1 : s.size < a) :
    Calls Try.prog 4 #[.string s, .int .u8 a, .int .u8 b] w fun e w' => e = .returned (.bool true) ∧ Below w.heap.size w w' := by
  have hm := hs
  unfold maxLen at hm
  have ka : wrap64 (a : Int) = a := IntWalk.wrap64_in _ (by omega)
  have kb : wrap64 (b : Int) = b := IntWalk.wrap64_in _ (by omega)
  go_enter Try.func4, Try.ntmps4
  go_wp2_with fail
  refine (new_any s _ hs).mono ?_
  rintro e w1 ⟨rfl, hb1⟩
  go_wp2_with fail
  have bel1 : Below w.heap.size w w1 := hb1
  clear hb1
  refine (text_no s 0 s.size a false _ hs (by omega) (by omega) (has_no _ _ _ _ (.inr (by omega)))).mono ?_
  rintro e w2 ⟨rfl, hb2⟩
  have bel2 := bcall bel1 hb2
  clear hb2 bel1
  go_wp2_with fail
  have B0 : Box (w2.alloc (.cells #[.string s, .int .i64 0, .int .i64 s.size, .bool true] 23)) w2.heap.size s 0 s.size true := box_new _ _ _ _ _
  have bel3 : Below w.heap.size w (w2.alloc (.cells #[.string s, .int .i64 0, .int .i64 s.size, .bool true] 23)) := balloc bel2 _
  refine (text_no s 0 s.size b true _ hs (by omega) (by omega) (has_no _ _ _ _ (.inl rfl))).mono ?_
  rintro e w3 ⟨rfl, hb3⟩
  have B1 := box_below B0 hb3
  have bel4 := bcall bel3 hb3
  clear B0 bel3 bel2 hb3
  generalize w2.heap.size = k2 at *
  go_wp2_with fail
  have B2 := box_new w3 s 0 s.size true
  have B3 := box_old B1 (.cells #[.string s, .int .i64 0, .int .i64 s.size, .bool true] 23)
  have bel5 := balloc bel4 (.cells #[.string s, .int .i64 0, .int .i64 s.size, .bool true] 23)
  refine (new_any s _ hs).mono ?_
  rintro e w4 ⟨rfl, hb4⟩
  have C1 := box_below B2 hb4
  have bel6 := bcall bel5 hb4
  clear B1 B2 B3 bel4 bel5 hb4
  generalize w3.heap.size = k3 at *
  go_wp2_with fail
  refine (text_no s 0 s.size ((a : Int) + b) false _ hs (by omega) (by omega) (has_no _ _ _ _ (.inr (by omega)))).mono ?_
  rintro e w5 ⟨rfl, hb5⟩
  have D1 := box_below C1 hb5
  have bel7 := bcall bel6 hb5
  clear C1 bel6 hb5
  go_wp2_with fail
  have E2 := box_new w5 s 0 s.size true
  have E1 := box_old D1 (.cells #[.string s, .int .i64 0, .int .i64 s.size, .bool true] 23)
  have bel8 := balloc bel7 (.cells #[.string s, .int .i64 0, .int .i64 s.size, .bool true] 23)
  refine (awake_any _).mono ?_
  rintro e w6 ⟨rfl, hb6⟩
  have F2 := box_below E2 hb6
  have F1 := box_below E1 hb6
  have bel9 := bcall bel8 hb6
  clear E1 E2 D1 bel7 bel8 hb6
  generalize w5.heap.size = k5 at *
  obtain ⟨⟨c10, c11, c12, c13⟩, f1, l1⟩ := F1
  obtain ⟨⟨c20, c21, c22, c23⟩, f2, l2⟩ := F2
  go_wp2
  go_ret
  exact ⟨rfl, bel9⟩

theorem walk (a0 : ByteArray) (a1 : Int) (a2 : Int) (w0 : a0.size ≤ maxLen) (w1 : (Lit.int .u8 a1).wf = true) (w2 : (Lit.int .u8 a2).wf = true) (w : World) :
    Calls Try.prog 4 #[.string a0, .int .u8 a1, .int .u8 a2] w fun e w' => e = .returned (.bool true) ∧ Below w.heap.size w w' := by
  have b1 := bounds_u8 w1
  have b2 := bounds_u8 w2
  by_cases h : 300 < a0.size
  · exact walk_long a0 a1 a2 w w0 h
  · obtain ⟨a, rfl⟩ := Int.eq_ofNat_of_zero_le b1.1
    obtain ⟨b, rfl⟩ := Int.eq_ofNat_of_zero_le b2.1
    by_cases h1 : a + b ≤ a0.size
    · exact walk_fits a0 a b w w0 (by omega) (by omega) (by omega) h1
    · by_cases h2 : a ≤ a0.size
      · exact walk_over1 a0 a b w w0 (by omega) (by omega) (by omega) (by omega) h2
      · exact walk_over2 a0 a b w w0 (by omega) (by omega) (by omega) (by omega)

/-! ### THE ROW's STEP: WRITTEN OUT: LEAVE IT -/
set_option maxRecDepth 100000 in
theorem lifted (os : Os) (started : os.Started) (H : Type) (enc : TypeId × Value → H) :
    ReturnsInHanded {} Try.checked os 4 .any (Rows.cursorTogetherSpec.pre6 enc Try.prog Try.f4 Rows.cursorTogetherRow.domain false) (Rows.cursorTogetherSpec.post enc Try.prog Try.f4 false true false false) := by
  refine returnsInHanded_of_change (C := Try.checked) own started (by kernel_rfl) Try.func4
    (ChangeSpec.witness6 (enc := enc) (C := Try.checked) false ⟨#[], #[.string ByteArray.empty, .int .u8 0, .int .u8 0], []⟩ 8 (by kernel_rfl) (by kernel_rfl) (by kernel_rfl) (by kernel_rfl)) ?_
  intro W base args ds gs before hval0 hW hcnd _
  have hval : ∀ (j : Nat) t v, Try.f4.params[j]? = some t → args[j]? = some v → Value.okWide Try.prog W .any base t v := hval0
  have hW' := hW
  obtain ⟨p, q, hA0, hV, rfl, hfz, hnd⟩ := hW
  have hA : DataW.TrodAll enc Try.prog W 0 (fun _ => true) true Try.f4.params.toList args.toList ds p := hA0
  rw [Try.params4] at hA hval
  obtain ⟨v0, vs0, d0, ds0, p0, q0, hargs, rfl, rfl, h0, r0⟩ := trodAll_cons hA
  obtain ⟨v1, vs1, d1, ds1, p1, q1, rfl, rfl, rfl, h1, r1⟩ := trodAll_cons r0
  obtain ⟨v2, vs2, d2, ds2, p2, q2, rfl, rfl, rfl, h2, r2⟩ := trodAll_cons r1
  obtain ⟨rfl, rfl, rfl⟩ := trodAll_nil r2
  obtain rfl : args = #[v0, v1, v2] := by cases args; simp_all
  obtain ⟨rfl, rfl⟩ := trodVars_none hV
  obtain ⟨a0, rfl, rfl, rfl, w0⟩ := open_string Try.underlying9 (hval 0 9 v0 rfl rfl) h0
  obtain ⟨a1, rfl, rfl, rfl, w1⟩ := open_int Try.underlying5 (hval 1 5 v1 rfl rfl) h1
  obtain ⟨a2, rfl, rfl, rfl, w2⟩ := open_int Try.underlying5 (hval 2 5 v2 rfl rfl) h2
  clear hA0 hval0
  simp only [List.append_nil] at hW'
  refine (walk a0 a1 a2 w0 w1 w2 W).mono fun e W' ⟨he, hg⟩ => ?_
  subst he
  exact ⟨_, rfl, _, _, _, [], _, [], hW', trodAll_mk1 (shut_bool Try.underlying4 _), (trodAll_cons_mk (shut_string Try.underlying9 w0) (trodAll_cons_mk (shut_int Try.underlying5 w1) (trodAll_cons_mk (shut_int Try.underlying5 w2) trodAll_mk0))), rfl, hg.frame _, fun h => by cases h⟩

theorem over : Rows.cursorTogetherRow.holds Try.pinned (OpenSpec.ofChange Rows.cursorTogetherSpec) :=
  OpenClaim.holds_of_wide 4 Try.f4 rfl rfl rfl rfl rfl rfl rfl ⟨rfl, rfl, rfl, rfl, rfl⟩ rfl rfl rfl rfl rfl (by kernel_rfl) Try.func4 (by kernel_rfl)
    (of_decide_eq_true (by kernel_rfl)) (by unfold Func.isWrapper; first | (rw [if_pos (by decide +kernel)]; kernel_rfl) | (rw [if_neg (by decide +kernel)]; exact ⟨rfl, rfl⟩))
    (fun os started H enc _ => lifted os started H enc)

/-- ████ THE STATEMENT ████ -/
theorem proved : Rows.CursorTogetherSaid :=
  over
#print axioms proved
end Go.Proofs.Ytmfpplpcodpncaa.cursorTogether
