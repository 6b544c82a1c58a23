/-
  BitsKeeps, of every text and every number of a byte: what is kept has the first bits, and no others; kept again it is the same, and clean. No condition.
-/
import Derived.Test.YtfpnmejbcjocoaaAwake
import Derived.WalkKit
import Derived.ProofKit
import Derived.OpenShut
import Derived.ShutString
namespace Go.Proofs.Ytfpnmejbcjocoaa.bitsKeeps
open Go.ChangeShapes Go.WideShapes Go.ChangeAt Go.RowKit
open Go.ChangeMaps (open_string shut_string)
open Go.Proofs.Ytfpnmejbcjocoaa.Bits
set_option linter.unusedVariables false      -- a walk need not use every 'w<i>' (that an integer argument fits its kind)

theorem own : ownKnob Try.prog.godebug = none := by kernel_rfl

/-- what is kept: of the same size, clean, kept again the same, and its bits -/
theorem kept (s : ByteArray) (n : Int) (hn : 0 ≤ n) (hs : s.size ≤ 1048576) : ∃ k : ByteArray, k.size = s.size ∧ (∀ i : Nat, bitZ k i = (decide ((i : Int) < n) && bitZ s i)) ∧
    (∀ w : World, Calls Try.prog 9 #[.string s, .int .i64 n] w fun e w' => e = .returned (.string k) ∧ Below w.heap.size w w') ∧
    (∀ w : World, Calls Try.prog 9 #[.string k, .int .i64 n] w fun e w' => e = .returned (.string k) ∧ Below w.heap.size w w') ∧
    (∀ w : World, Calls Try.prog 11 #[.string k, .int .i64 n] w fun e w' => e = .returned (.bool true) ∧ Below w.heap.size w w') := by
  have hsz : (ByteArray.mk (keepL s.data.toList n.toNat).toArray).size = s.size := by
    show (keepL s.data.toList n.toNat).toArray.size = s.size
    simp [keepL_length]
  have hk : keepL (ByteArray.mk (keepL s.data.toList n.toNat).toArray).data.toList n.toNat = keepL s.data.toList n.toNat := by
    show keepL (keepL s.data.toList n.toNat) n.toNat = _
    rw [keepL_keep, Nat.min_self]
  refine ⟨⟨(keepL s.data.toList n.toNat).toArray⟩, hsz, fun i => ?_, fun w => keep_any s n w hs, fun w => ?_, fun w => ?_⟩
  · rw [bitZ_nat, bitZ_nat]
    show bitL (keepL s.data.toList n.toNat) i = _
    rw [bitL_keep]
    congr 1
    by_cases h : (i : Int) < n
    · have : i < n.toNat := by omega
      simp [h, this]
    · have : ¬ i < n.toNat := by omega
      simp [h, this]
  · have := keep_any ⟨(keepL s.data.toList n.toNat).toArray⟩ n w (by omega)
    rw [hk] at this
    exact this
  · have := clean_any ⟨(keepL s.data.toList n.toNat).toArray⟩ n w (by omega)
    have e : cleanZ ⟨(keepL s.data.toList n.toNat).toArray⟩ n = true := by unfold cleanZ; exact decide_eq_true hk
    rw [e] at this
    exact this

set_option maxHeartbeats 800000 in
theorem walk_long (a0 : ByteArray) (a1 : Int) (w0 : a0.size ≤ maxLen) (w : World) (h : 100 < a0.size) :
    Calls Try.prog 4 #[.string a0, .int .u8 a1] w fun e w' => e = .returned (.bool true) ∧ Below w.heap.size w w' := by
  have hm := w0
  unfold maxLen at hm
  go_enter Try.func4, Try.ntmps4
  go_wp2_with fail
  refine (awake_any _).mono ?_
  rintro e w1 ⟨rfl, hb1⟩
  go_wp2
  go_ret
  exact ⟨rfl, hb1⟩

set_option maxHeartbeats 1600000 in
theorem walk_short (a0 : ByteArray) (a1 : Int) (hn : 0 ≤ a1 ∧ a1 < 256) (w : World) (h : a0.size ≤ 100) :
    Calls Try.prog 4 #[.string a0, .int .u8 a1] w fun e w' => e = .returned (.bool true) ∧ Below w.heap.size w w' := by
  obtain ⟨k, hks, hbits, P9, P9k, PC⟩ := kept a0 a1 hn.1 (by omega)
  have HB := Lib.hid hbits
  have h9 := Lib.hid P9
  have h9k := Lib.hid P9k
  have hC := Lib.hid PC
  have HA := Lib.hid (fun (i : Int) (w : World) => bit_any a0 i w (by omega))
  have HK := Lib.hid (fun (i : Int) (w : World) => bit_any k i w (by omega))
  have hwr : wrap64 a1 = a1 := IntWalk.wrap64_in a1 (by omega)
  clear hbits P9 P9k PC
  go_enter Try.func4, Try.ntmps4
  go_wp2_with fail
  refine (h9.out _).mono ?_
  rintro e w1 ⟨rfl, hb1⟩
  go_wp2_with fail
  refine (hC.out _).mono ?_
  rintro e w2 ⟨rfl, hb2⟩
  replace hb2 := bcall hb1 hb2
  clear hb1
  go_wp2_with fail
  refine (h9k.out _).mono ?_
  rintro e w3 ⟨rfl, hb3⟩
  replace hb3 := bcall hb2 hb3
  clear hb2 h9 h9k hC
  go_wp2
  go_loop [6] (fun i => ∃ j : Nat, j ≤ 8 * a0.size ∧ i = .int .i64 j) (fun i => 8 * a0.size - (intOf i).toNat)
  case atStart => exact ⟨0, Nat.zero_le _, rfl⟩
  case round =>
    obtain ⟨j, hj, rfl⟩ := hrel
    by_cases hlt : j < 8 * a0.size
    · by_cases hjn : (j : Int) < a1
      · have HE : Hid (bitZ k j = bitZ a0 j) := Lib.hid (by rw [HB.out j, decide_eq_true hjn]; simp)
        go_wp2_with fail
        refine (HK.out _ _).mono ?_
        rintro e w4 ⟨rfl, rfl⟩
        rw [HE.out]
        clear HE
        go_wp2_with fail
        refine (HA.out _ _).mono ?_
        rintro e w4 ⟨rfl, rfl⟩
        generalize bitZ a0 j = bv at *
        go_wp2
        go_round
        case rel => exact ⟨j + 1, by omega, by go_num⟩
        case measure => simp [intOf]; omega
      · have HE : Hid (bitZ k j = false) := Lib.hid (by rw [HB.out j, decide_eq_false hjn]; simp)
        go_wp2_with fail
        refine (HK.out _ _).mono ?_
        rintro e w4 ⟨rfl, rfl⟩
        rw [HE.out]
        go_wp2
        go_round
        case rel => exact ⟨j + 1, by omega, by go_num⟩
        case measure => simp [intOf]; omega
    · go_wp2_with fail
      refine (awake_any _).mono ?_
      rintro e w4 ⟨rfl, hb4⟩
      go_wp2
      go_ret
      exact ⟨rfl, bcall hb3 hb4⟩

theorem walk (a0 : ByteArray) (a1 : Int) (w0 : a0.size ≤ maxLen) (w1 : (Lit.int .u8 a1).wf = true) (w : World) :
    Calls Try.prog 4 #[.string a0, .int .u8 a1] w fun e w' => e = .returned (.bool true) ∧ Below w.heap.size w w' := by
  by_cases h : 100 < a0.size
  · exact walk_long a0 a1 w0 w h
  · refine walk_short a0 a1 ?_ w (by omega)
    have h : IntKind.u8.min ≤ a1 ∧ a1 ≤ IntKind.u8.max := by simpa [Lit.wf] using w1
    rw [show IntKind.u8.min = 0 by decide, show IntKind.u8.max = 255 by decide] at h
    omega

set_option maxRecDepth 100000 in
theorem lifted (os : Os) (started : os.Started) (H : Type) (enc : TypeId × Value → H) :
    ReturnsInHanded {} Try.checked os 4 .any (Rows.bitsKeepsSpec.pre6 enc Try.prog Try.f4 Rows.bitsKeepsRow.domain false) (Rows.bitsKeepsSpec.post enc Try.prog Try.f4 false true false false) := by
  refine returnsInHanded_of_change (C := Try.checked) own started (by kernel_rfl) Try.func4
    (ChangeSpec.witness6 (enc := enc) (C := Try.checked) false ⟨#[], #[.string ByteArray.empty, .int .u8 0], []⟩ 8 (by kernel_rfl) (by kernel_rfl) (by kernel_rfl) (by kernel_rfl)) ?_
  intro W base args ds gs before hval0 hW hcnd _
  have hval : ∀ (j : Nat) t v, Try.f4.params[j]? = some t → args[j]? = some v → Value.okWide Try.prog W .any base t v := hval0
  have hW' := hW
  obtain ⟨p, q, hA0, hV, rfl, hfz, hnd⟩ := hW
  have hA : DataW.TrodAll enc Try.prog W 0 (fun _ => true) true Try.f4.params.toList args.toList ds p := hA0
  rw [Try.params4] at hA hval
  obtain ⟨v0, vs0, d0, ds0, p0, q0, hargs, rfl, rfl, h0, r0⟩ := trodAll_cons hA
  obtain ⟨v1, vs1, d1, ds1, p1, q1, rfl, rfl, rfl, h1, r1⟩ := trodAll_cons r0
  obtain ⟨rfl, rfl, rfl⟩ := trodAll_nil r1
  obtain rfl : args = #[v0, v1] := by cases args; simp_all
  obtain ⟨rfl, rfl⟩ := trodVars_none hV
  obtain ⟨a0, rfl, rfl, rfl, w0⟩ := open_string Try.underlying9 (hval 0 9 v0 rfl rfl) h0
  obtain ⟨a1, rfl, rfl, rfl, w1⟩ := open_int Try.underlying5 (hval 1 5 v1 rfl rfl) h1
  clear hA0 hval0
  simp only [List.append_nil] at hW'
  refine (walk a0 a1 w0 w1 W).mono fun e W' ⟨he, hg⟩ => ?_
  subst he
  exact ⟨_, rfl, _, _, _, [], _, [], hW', trodAll_mk1 (shut_bool Try.underlying4 _), (trodAll_cons_mk (shut_string Try.underlying9 w0) (trodAll_cons_mk (shut_int Try.underlying5 w1) trodAll_mk0)), rfl, hg.frame _, fun h => by cases h⟩

theorem over : Rows.bitsKeepsRow.holds Try.pinned (OpenSpec.ofChange Rows.bitsKeepsSpec) :=
  OpenClaim.holds_of_wide 4 Try.f4 rfl rfl rfl rfl rfl rfl rfl ⟨rfl, rfl, rfl, rfl, rfl⟩ rfl rfl rfl rfl rfl (by kernel_rfl) Try.func4 (by kernel_rfl)
    (of_decide_eq_true (by kernel_rfl)) (by unfold Func.isWrapper; first | (rw [if_pos (by decide +kernel)]; kernel_rfl) | (rw [if_neg (by decide +kernel)]; exact ⟨rfl, rfl⟩))
    (fun os started H enc _ => lifted os started H enc)

theorem proved : Rows.BitsKeepsSaid :=
  over
#print axioms proved
end Go.Proofs.Ytfpnmejbcjocoaa.bitsKeeps
