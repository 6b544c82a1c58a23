/-
  BitsAlike, of any two texts: so many bits are alike, kept they are the same, and one more isn't; either way round. No condition.
-/
import Derived.Test.YtfpnmejbcjocoaaAwake
import Derived.WalkKit
import Derived.ProofKit
import Derived.OpenShut
import Derived.ShutString
namespace Go.Proofs.Ytfpnmejbcjocoaa.bitsAlike
open Go.ChangeShapes Go.WideShapes Go.ChangeAt Go.RowKit
open Go.ChangeMaps (open_string shut_string)
open Go.Proofs.Ytfpnmejbcjocoaa.Bits
set_option linter.unusedVariables false      -- a walk need not use every 'w<i>' (that an integer argument fits its kind)

theorem own : ownKnob Try.prog.godebug = none := by kernel_rfl

set_option maxHeartbeats 800000 in
theorem walk_long (a0 : ByteArray) (a1 : ByteArray) (w0 : a0.size ≤ maxLen) (w1 : a1.size ≤ maxLen) (w : World) (h : 100 < a0.size ∨ a1.size ≠ a0.size) :
    Calls Try.prog 5 #[.string a0, .string a1] w fun e w' => e = .returned (.bool true) ∧ Below w.heap.size w w' := by
  have hm := w0
  have hm1 := w1
  unfold maxLen at hm hm1
  by_cases h0 : 100 < a0.size
  · go_enter Try.func5, Try.ntmps5
    go_wp2_with fail
    refine (awake_any _).mono ?_
    rintro e w2 ⟨rfl, hb1⟩
    go_wp2
    go_ret
    exact ⟨rfl, hb1⟩
  · have h1 : ¬ a1.size = a0.size := by omega
    have h2 : ((a1.size : Int) != (a0.size : Int)) = true := by simp; omega
    clear h
    go_enter Try.func5, Try.ntmps5
    go_wp2_with fail
    refine (awake_any _).mono ?_
    rintro e w2 ⟨rfl, hb1⟩
    go_wp2
    go_ret
    exact ⟨rfl, hb1⟩

theorem same_of_full (a b : ByteArray) (hl : b.size = a.size) (h : alikeN a.data.toList b.data.toList = 8 * a.size) : a = b := by
  have e : a.data.toList = b.data.toList := by
    apply list_ext (by rw [len_list, len_list, hl])
    intro i hi
    rw [len_list] at hi
    exact alike_below _ _ i (by omega)
  exact bytes_inj e

set_option maxHeartbeats 1600000 in
theorem walk_full (a0 : ByteArray) (w : World) (h0 : a0.size ≤ 100) (hn : alikeN a0.data.toList a0.data.toList = 8 * a0.size) :
    Calls Try.prog 5 #[.string a0, .string a0] w fun e w' => e = .returned (.bool true) ∧ Below w.heap.size w w' := by
  have P9 := Lib.hid (fun w => keep_any a0 ((8 * a0.size : Nat) : Int) w (by omega))
  have P13 := Lib.hid (fun w => alike_any a0 a0 w (by omega) (by omega))
  rw [hn] at P13
  generalize ByteArray.mk (keepL a0.data.toList ((8 * a0.size : Nat) : Int).toNat).toArray = kv at *
  have ec : ((8 * a0.size : Nat) : Int) = 8 * (a0.size : Int) := by omega
  rw [ec] at P9 P13
  clear hn
  go_enter Try.func5, Try.ntmps5
  go_wp2_with fail
  refine (P13.out _).mono ?_
  rintro e w2 ⟨rfl, hb1⟩
  go_wp2_with fail
  refine (P9.out _).mono ?_
  rintro e w3 ⟨rfl, hb2⟩
  replace hb2 := bcall hb1 hb2
  clear hb1
  go_wp2_with fail
  refine (P9.out _).mono ?_
  rintro e w4 ⟨rfl, hb3⟩
  replace hb3 := bcall hb2 hb3
  clear hb2
  go_wp2_with fail
  refine (P13.out _).mono ?_
  rintro e w5 ⟨rfl, hb4⟩
  replace hb4 := bcall hb3 hb4
  clear hb3
  go_wp2_with fail
  refine (awake_any _).mono ?_
  rintro e w6 ⟨rfl, hb5⟩
  replace hb5 := bcall hb4 hb5
  clear hb4
  go_wp2
  go_ret
  exact ⟨rfl, hb5⟩

set_option maxHeartbeats 1600000 in
theorem walk_part (a0 : ByteArray) (a1 : ByteArray) (w : World) (h0 : a0.size ≤ 100) (hl : a1.size = a0.size) (hn : alikeN a0.data.toList a1.data.toList < 8 * a0.size) :
    Calls Try.prog 5 #[.string a0, .string a1] w fun e w' => e = .returned (.bool true) ∧ Below w.heap.size w w' := by
  have P9 := Lib.hid (fun w => keep_any a0 (alikeN a0.data.toList a1.data.toList : Nat) w (by omega))
  have P9' := Lib.hid (fun w => keep_any a1 (alikeN a0.data.toList a1.data.toList : Nat) w (by omega))
  have P13 := Lib.hid (fun w => alike_any a0 a1 w (by omega) (by omega))
  have P13' := Lib.hid (fun w => alike_any a1 a0 w (by omega) (by omega))
  have P7 := Lib.hid (fun w => bit_any a0 (alikeN a0.data.toList a1.data.toList : Nat) w (by omega))
  have P7' := Lib.hid (fun w => bit_any a1 (alikeN a0.data.toList a1.data.toList : Nat) w (by omega))
  rw [alike_comm a1.data.toList a0.data.toList] at P13'
  rw [Int.toNat_natCast, alike_keep _ _ (by rw [len_list, len_list, hl])] at P9
  rw [Int.toNat_natCast] at P9'
  have hd : bitL a0.data.toList (alikeN a0.data.toList a1.data.toList) ≠ bitL a1.data.toList (alikeN a0.data.toList a1.data.toList) := alike_at _ _ (by rw [len_list, len_list]; omega)
  rw [bitZ_nat] at P7 P7'
  generalize alikeN a0.data.toList a1.data.toList = n at *
  have hx : (bitL a0.data.toList n != bitL a1.data.toList n) = true := by simpa using hd
  clear hd
  generalize bitL a0.data.toList n = b0 at *
  generalize bitL a1.data.toList n = b1 at *
  generalize ByteArray.mk (keepL a1.data.toList n).toArray = kv at *
  go_enter Try.func5, Try.ntmps5
  go_wp2_with fail
  refine (P13.out _).mono ?_
  rintro e w2 ⟨rfl, hb1⟩
  go_wp2_with fail
  refine (P9.out _).mono ?_
  rintro e w3 ⟨rfl, hb2⟩
  replace hb2 := bcall hb1 hb2
  clear hb1
  go_wp2_with fail
  refine (P9'.out _).mono ?_
  rintro e w4 ⟨rfl, hb3⟩
  replace hb3 := bcall hb2 hb3
  clear hb2
  go_wp2_with fail
  refine (P13'.out _).mono ?_
  rintro e w5 ⟨rfl, hb4⟩
  replace hb4 := bcall hb3 hb4
  clear hb3
  go_wp2_with fail
  refine (awake_any _).mono ?_
  rintro e w6 ⟨rfl, hb5⟩
  replace hb5 := bcall hb4 hb5
  clear hb4
  go_wp2_with fail
  refine (P7.out _).mono ?_
  rintro e w7 ⟨rfl, rfl⟩
  go_wp2_with fail
  refine (P7'.out _).mono ?_
  rintro e w7 ⟨rfl, rfl⟩
  go_wp2
  go_ret
  exact ⟨bool_eq hx, hb5⟩

theorem walk (a0 : ByteArray) (a1 : ByteArray) (w0 : a0.size ≤ maxLen) (w1 : a1.size ≤ maxLen) (w : World) :
    Calls Try.prog 5 #[.string a0, .string a1] w fun e w' => e = .returned (.bool true) ∧ Below w.heap.size w w' := by
  by_cases h : 100 < a0.size ∨ a1.size ≠ a0.size
  · exact walk_long a0 a1 w0 w1 w h
  · have hl : a1.size = a0.size := by omega
    have hle := alike_le a0.data.toList a1.data.toList
    rw [len_list, len_list, hl, Nat.min_self] at hle
    by_cases hn : alikeN a0.data.toList a1.data.toList = 8 * a0.size
    · obtain rfl := same_of_full a0 a1 hl hn
      exact walk_full a0 w (by omega) hn
    · exact walk_part a0 a1 w (by omega) hl (by omega)

set_option maxRecDepth 100000 in
theorem lifted (os : Os) (started : os.Started) (H : Type) (enc : TypeId × Value → H) :
    ReturnsInHanded {} Try.checked os 5 .any (Rows.bitsAlikeSpec.pre6 enc Try.prog Try.f5 Rows.bitsAlikeRow.domain false) (Rows.bitsAlikeSpec.post enc Try.prog Try.f5 false true false false) := by
  refine returnsInHanded_of_change (C := Try.checked) own started (by kernel_rfl) Try.func5
    (ChangeSpec.witness6 (enc := enc) (C := Try.checked) false ⟨#[], #[.string ByteArray.empty, .string ByteArray.empty], []⟩ 8 (by kernel_rfl) (by kernel_rfl) (by kernel_rfl) (by kernel_rfl)) ?_
  intro W base args ds gs before hval0 hW hcnd _
  have hval : ∀ (j : Nat) t v, Try.f5.params[j]? = some t → args[j]? = some v → Value.okWide Try.prog W .any base t v := hval0
  have hW' := hW
  obtain ⟨p, q, hA0, hV, rfl, hfz, hnd⟩ := hW
  have hA : DataW.TrodAll enc Try.prog W 0 (fun _ => true) true Try.f5.params.toList args.toList ds p := hA0
  rw [Try.params5] at hA hval
  obtain ⟨v0, vs0, d0, ds0, p0, q0, hargs, rfl, rfl, h0, r0⟩ := trodAll_cons hA
  obtain ⟨v1, vs1, d1, ds1, p1, q1, rfl, rfl, rfl, h1, r1⟩ := trodAll_cons r0
  obtain ⟨rfl, rfl, rfl⟩ := trodAll_nil r1
  obtain rfl : args = #[v0, v1] := by cases args; simp_all
  obtain ⟨rfl, rfl⟩ := trodVars_none hV
  obtain ⟨a0, rfl, rfl, rfl, w0⟩ := open_string Try.underlying9 (hval 0 9 v0 rfl rfl) h0
  obtain ⟨a1, rfl, rfl, rfl, w1⟩ := open_string Try.underlying9 (hval 1 9 v1 rfl rfl) h1
  clear hA0 hval0
  simp only [List.append_nil] at hW'
  refine (walk a0 a1 w0 w1 W).mono fun e W' ⟨he, hg⟩ => ?_
  subst he
  exact ⟨_, rfl, _, _, _, [], _, [], hW', trodAll_mk1 (shut_bool Try.underlying4 _), (trodAll_cons_mk (shut_string Try.underlying9 w0) (trodAll_cons_mk (shut_string Try.underlying9 w1) trodAll_mk0)), rfl, hg.frame _, fun h => by cases h⟩

theorem over : Rows.bitsAlikeRow.holds Try.pinned (OpenSpec.ofChange Rows.bitsAlikeSpec) :=
  OpenClaim.holds_of_wide 5 Try.f5 rfl rfl rfl rfl rfl rfl rfl ⟨rfl, rfl, rfl, rfl, rfl⟩ rfl rfl rfl rfl rfl (by kernel_rfl) Try.func5 (by kernel_rfl)
    (of_decide_eq_true (by kernel_rfl)) (by unfold Func.isWrapper; first | (rw [if_pos (by decide +kernel)]; kernel_rfl) | (rw [if_neg (by decide +kernel)]; exact ⟨rfl, rfl⟩))
    (fun os started H enc _ => lifted os started H enc)

theorem proved : Rows.BitsAlikeSaid :=
  over
#print axioms proved
end Go.Proofs.Ytfpnmejbcjocoaa.bitsAlike
