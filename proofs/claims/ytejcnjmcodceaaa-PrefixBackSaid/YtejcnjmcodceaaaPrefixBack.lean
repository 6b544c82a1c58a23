/-
  PrefixBack, of any text and every length: a prefix, cut and filled, is that prefix; what is no address is none. No condition.
-/
import Derived.Test.YtejcnjmcodceaaaLead
import Derived.WalkKit
import Derived.ProofKit
import Derived.OpenShut
import Derived.ShutString
namespace Go.Proofs.Ytejcnjmcodceaaa.prefixBack
open Go.ChangeShapes Go.WideShapes Go.ChangeAt Go.RowKit
open Go.ChangeMaps (open_string shut_string)
open Go.Proofs.Ytejcnjmcodceaaa.Bits
open Go.Proofs.Ytejcnjmcodceaaa.Pre
set_option linter.unusedVariables false      -- a walk need not use every 'w<i>' (that an integer argument fits its kind)

theorem own : ownKnob Try.prog.godebug = none := by kernel_rfl

/-- bytes from the last one that has a kept bit on are noughts -/
theorem fill_cut (l : List UInt8) (n : Nat) (h : n ≤ 8 * l.length) : fillL (cutL l n) l.length = keepL l n := by
  unfold fillL cutL leastN
  rw [Int.toNat_natCast]
  have hk : (n + 7) / 8 ≤ l.length := by omega
  have hl : (List.take ((n + 7) / 8) (keepL l n)).length = (n + 7) / 8 := by rw [List.length_take, keepL_length]; omega
  rw [hl]
  apply List.ext_getElem
  · rw [List.length_append, hl, List.length_replicate, keepL_length]; omega
  · intro i h1 h2
    by_cases hi : i < (n + 7) / 8
    · rw [List.getElem_append_left (by rw [hl]; exact hi), List.getElem_take]
    · rw [List.getElem_append_right (by rw [hl]; omega), List.getElem_replicate]
      apply UInt8.toNat_inj.1
      rw [keepL_get, show n - 8 * i = 0 by omega, mask_none _ (UInt8.toNat_lt _)]
      rfl

theorem cut_size (l : List UInt8) (n : Nat) (h : n ≤ 8 * l.length) : (ByteArray.mk (cutL l n).toArray).size = leastN n := by
  show (cutL l n).toArray.size = _
  rw [List.size_toArray]
  unfold cutL
  rw [List.length_take, keepL_length]
  unfold leastN
  omega

theorem cut_keep (l : List UInt8) (n : Nat) : cutL (keepL l n) n = cutL l n := by
  unfold cutL
  rw [Int.toNat_natCast, keepL_keep, Nat.min_self]

theorem right_keep (s : ByteArray) (n : Nat) (h4 : s.size = 4 ∨ s.size = 16) (h : n ≤ 8 * s.size) : rightZ (ByteArray.mk (keepL s.data.toList n).toArray) n = true := by
  have hz : (ByteArray.mk (keepL s.data.toList n).toArray).size = s.size := by show (keepL s.data.toList n).toArray.size = _; rw [List.size_toArray, keepL_length, len_list]
  unfold rightZ cleanZ
  rw [hz, Int.toNat_natCast]
  have e : keepL (ByteArray.mk (keepL s.data.toList n).toArray).data.toList n = (ByteArray.mk (keepL s.data.toList n).toArray).data.toList := by
    show keepL (keepL s.data.toList n) n = _
    rw [keepL_keep, Nat.min_self]
  rw [decide_eq_true e]
  rcases h4 with h4 | h4 <;> simp [h4] <;> omega

set_option maxHeartbeats 800000 in
theorem walk_other (a0 : ByteArray) (m : Nat) (w0 : a0.size ≤ maxLen) (hm : m < 256) (w : World) (h : ¬ (a0.size = 4 ∨ a0.size = 16)) :
    Calls Try.prog 4 #[.string a0, .int .u8 (m : Int)] w fun e w' => e = .returned (.bool true) ∧ Below w.heap.size w w' := by
  have P7 := Lib.hid (fun w => right_any a0 (m : Int) w w0)
  have e : rightZ a0 (m : Int) = false := by unfold rightZ; simp at h; simp [h]
  rw [e] at P7
  clear e
  have hs := w0
  unfold maxLen at hs
  obtain ⟨ha, hb⟩ := not_or.1 h
  clear h
  have ha' : ((a0.size : Int) != 4) = true := by simp; omega
  have hb' : ((a0.size : Int) != 16) = true := by simp; omega
  go_enter Try.func4, Try.ntmps4
  go_wp2_with fail
  refine (awake_any _).mono ?_
  rintro e w1 ⟨rfl, hb1⟩
  go_wp2_with fail
  refine (P7.out _).mono ?_
  rintro e w2 ⟨rfl, hb2⟩
  replace hb2 := bcall hb1 hb2
  clear hb1
  go_wp2
  go_ret
  exact ⟨rfl, hb2⟩

set_option maxHeartbeats 1600000 in
theorem walk_in (a0 : ByteArray) (m n : Nat) (hm : m < 256) (w : World) (h : a0.size = 4 ∨ a0.size = 16) (hn : n = m % (8 * a0.size + 1)) :
    Calls Try.prog 4 #[.string a0, .int .u8 (m : Int)] w fun e w' => e = .returned (.bool true) ∧ Below w.heap.size w w' := by
  have h8 : n ≤ 8 * a0.size := by
    have := Nat.mod_lt m (show 0 < 8 * a0.size + 1 by omega)
    omega
  have P17 := Lib.hid (fun w => rkeep_any a0 (n : Int) w (by omega))
  have P11 := Lib.hid (fun w => cut_any a0 (n : Int) w (by omega) (by omega))
  have hz : (ByteArray.mk (keepL a0.data.toList n).toArray).size = a0.size := by show (keepL a0.data.toList n).toArray.size = _; rw [List.size_toArray, keepL_length, len_list]
  have P7 := Lib.hid (fun w => right_any (ByteArray.mk (keepL a0.data.toList n).toArray) (n : Int) w (by rw [hz]; unfold maxLen; omega))
  have P11' := Lib.hid (fun w => cut_any (ByteArray.mk (keepL a0.data.toList n).toArray) (n : Int) w (by omega) (by omega))
  have hc : cutL (ByteArray.mk (keepL a0.data.toList n).toArray).data.toList (n : Int) = cutL a0.data.toList n := cut_keep _ _
  have hcs := cut_size a0.data.toList n (by rw [len_list]; exact h8)
  have hlz : leastN (n : Int) ≤ 16 := by unfold leastN; omega
  have P13 := Lib.hid (fun w => fill_any (ByteArray.mk (cutL a0.data.toList n).toArray) (a0.size : Int) w (by omega) (by omega))
  have hf : fillL (ByteArray.mk (cutL a0.data.toList n).toArray).data.toList (a0.size : Int).toNat = keepL a0.data.toList n := by
    rw [Int.toNat_natCast, ← len_list a0]
    exact fill_cut _ _ (by rw [len_list]; exact h8)
  have P9 := Lib.hid (fun w => least_any (n : Int) w (by omega))
  rw [hf] at P13
  rw [hc] at P11'
  rw [right_keep a0 n h h8] at P7
  rw [Int.toNat_natCast] at P17
  clear hf hc hz
  generalize ByteArray.mk (cutL a0.data.toList n).toArray = cv at *
  generalize ByteArray.mk (keepL a0.data.toList n).toArray = kv at *
  generalize leastN (n : Int) = lv at *
  have hcs' : (cv.size : Int) = (lv : Int) := by omega
  clear hcs
  rcases h with h | h
  · rw [h] at hn h8 P13
    have hn' : (m : Int) % 33 = (n : Int) := by omega
    clear hn
    replace P13 : Hid (∀ w, Calls Try.prog 13 #[.string cv, .int .i64 4] w fun e w' => e = .returned (.string kv) ∧ Below w.heap.size w w') := P13
    go_enter Try.func4, Try.ntmps4
    go_wp2_with fail
    refine (P17.out _).mono ?_
    rintro e w1 ⟨rfl, hb1⟩
    go_wp2_with fail
    refine (P11.out _).mono ?_
    rintro e w2 ⟨rfl, hb2⟩
    replace hb2 := bcall hb1 hb2
    clear hb1
    go_wp2_with fail
    refine (awake_any _).mono ?_
    rintro e w3 ⟨rfl, hb3⟩
    replace hb3 := bcall hb2 hb3
    clear hb2
    go_wp2_with fail
    refine (P7.out _).mono ?_
    rintro e w4 ⟨rfl, hb4⟩
    replace hb4 := bcall hb3 hb4
    clear hb3
    go_wp2_with fail
    refine (P11'.out _).mono ?_
    rintro e w5 ⟨rfl, hb5⟩
    replace hb5 := bcall hb4 hb5
    clear hb4
    go_wp2_with fail
    refine (P13.out _).mono ?_
    rintro e w6 ⟨rfl, hb6⟩
    replace hb6 := bcall hb5 hb6
    clear hb5
    go_wp2_with fail
    refine (P9.out _).mono ?_
    rintro e w7 ⟨rfl, rfl⟩
    go_wp2
    go_ret
    exact ⟨rfl, hb6⟩
  · rw [h] at hn h8 P13
    have hn' : (m : Int) % 129 = (n : Int) := by omega
    clear hn
    replace P13 : Hid (∀ w, Calls Try.prog 13 #[.string cv, .int .i64 16] w fun e w' => e = .returned (.string kv) ∧ Below w.heap.size w w') := P13
    go_enter Try.func4, Try.ntmps4
    go_wp2_with fail
    refine (P17.out _).mono ?_
    rintro e w1 ⟨rfl, hb1⟩
    go_wp2_with fail
    refine (P11.out _).mono ?_
    rintro e w2 ⟨rfl, hb2⟩
    replace hb2 := bcall hb1 hb2
    clear hb1
    go_wp2_with fail
    refine (awake_any _).mono ?_
    rintro e w3 ⟨rfl, hb3⟩
    replace hb3 := bcall hb2 hb3
    clear hb2
    go_wp2_with fail
    refine (P7.out _).mono ?_
    rintro e w4 ⟨rfl, hb4⟩
    replace hb4 := bcall hb3 hb4
    clear hb3
    go_wp2_with fail
    refine (P11'.out _).mono ?_
    rintro e w5 ⟨rfl, hb5⟩
    replace hb5 := bcall hb4 hb5
    clear hb4
    go_wp2_with fail
    refine (P13.out _).mono ?_
    rintro e w6 ⟨rfl, hb6⟩
    replace hb6 := bcall hb5 hb6
    clear hb5
    go_wp2_with fail
    refine (P9.out _).mono ?_
    rintro e w7 ⟨rfl, rfl⟩
    go_wp2
    go_ret
    exact ⟨rfl, hb6⟩

theorem walk (a0 : ByteArray) (a1 : Int) (w0 : a0.size ≤ maxLen) (w1 : (Lit.int .u8 a1).wf = true) (w : World) :
    Calls Try.prog 4 #[.string a0, .int .u8 a1] w fun e w' => e = .returned (.bool true) ∧ Below w.heap.size w w' := by
  have hw := w1
  simp only [Lit.wf, Bool.and_eq_true, decide_eq_true_eq] at hw
  have hmin : IntKind.u8.min = 0 := rfl
  have hmax : IntKind.u8.max = 255 := rfl
  obtain ⟨m, rfl⟩ : ∃ m : Nat, a1 = m := ⟨a1.toNat, by omega⟩
  have hm : m < 256 := by omega
  by_cases h : a0.size = 4 ∨ a0.size = 16
  · exact walk_in a0 m _ hm w h rfl
  · exact walk_other a0 m w0 hm w h

set_option maxRecDepth 100000 in
theorem lifted (os : Os) (started : os.Started) (H : Type) (enc : TypeId × Value → H) :
    ReturnsInHanded {} Try.checked os 4 .any (Rows.prefixBackSpec.pre6 enc Try.prog Try.f4 Rows.prefixBackRow.domain false) (Rows.prefixBackSpec.post enc Try.prog Try.f4 false true false false) := by
  refine returnsInHanded_of_change (C := Try.checked) own started (by kernel_rfl) Try.func4
    (ChangeSpec.witness6 (enc := enc) (C := Try.checked) false ⟨#[], #[.string ByteArray.empty, .int .u8 0], []⟩ 8 (by kernel_rfl) (by kernel_rfl) (by kernel_rfl) (by kernel_rfl)) ?_
  intro W base args ds gs before hval0 hW hcnd _
  have hval : ∀ (j : Nat) t v, Try.f4.params[j]? = some t → args[j]? = some v → Value.okWide Try.prog W .any base t v := hval0
  have hW' := hW
  obtain ⟨p, q, hA0, hV, rfl, hfz, hnd⟩ := hW
  have hA : DataW.TrodAll enc Try.prog W 0 (fun _ => true) true Try.f4.params.toList args.toList ds p := hA0
  rw [Try.params4] at hA hval
  obtain ⟨v0, vs0, d0, ds0, p0, q0, hargs, rfl, rfl, h0, r0⟩ := trodAll_cons hA
  obtain ⟨v1, vs1, d1, ds1, p1, q1, rfl, rfl, rfl, h1, r1⟩ := trodAll_cons r0
  obtain ⟨rfl, rfl, rfl⟩ := trodAll_nil r1
  obtain rfl : args = #[v0, v1] := by cases args; simp_all
  obtain ⟨rfl, rfl⟩ := trodVars_none hV
  obtain ⟨a0, rfl, rfl, rfl, w0⟩ := open_string Try.underlying9 (hval 0 9 v0 rfl rfl) h0
  obtain ⟨a1, rfl, rfl, rfl, w1⟩ := open_int Try.underlying5 (hval 1 5 v1 rfl rfl) h1
  clear hA0 hval0
  simp only [List.append_nil] at hW'
  refine (walk a0 a1 w0 w1 W).mono fun e W' ⟨he, hg⟩ => ?_
  subst he
  exact ⟨_, rfl, _, _, _, [], _, [], hW', trodAll_mk1 (shut_bool Try.underlying4 _), (trodAll_cons_mk (shut_string Try.underlying9 w0) (trodAll_cons_mk (shut_int Try.underlying5 w1) trodAll_mk0)), rfl, hg.frame _, fun h => by cases h⟩

theorem over : Rows.prefixBackRow.holds Try.pinned (OpenSpec.ofChange Rows.prefixBackSpec) :=
  OpenClaim.holds_of_wide 4 Try.f4 rfl rfl rfl rfl rfl rfl rfl ⟨rfl, rfl, rfl, rfl, rfl⟩ rfl rfl rfl rfl rfl (by kernel_rfl) Try.func4 (by kernel_rfl)
    (of_decide_eq_true (by kernel_rfl)) (by unfold Func.isWrapper; first | (rw [if_pos (by decide +kernel)]; kernel_rfl) | (rw [if_neg (by decide +kernel)]; exact ⟨rfl, rfl⟩))
    (fun os started H enc _ => lifted os started H enc)

theorem proved : Rows.PrefixBackSaid :=
  over
#print axioms proved
end Go.Proofs.Ytejcnjmcodceaaa.prefixBack
