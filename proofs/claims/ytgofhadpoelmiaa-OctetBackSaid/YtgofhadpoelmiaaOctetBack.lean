/-
  OctetBack, of any two numbers: the bytes, put together again, are the number; what doesn't fit has none. No condition.
-/
import Derived.Test.YtgofhadpoelmiaaAwake
import Derived.WalkKit
import Derived.ProofKit
import Derived.OpenShut
import Derived.ShutString
namespace Go.Proofs.Ytgofhadpoelmiaa.octetBack
open Go.ChangeShapes Go.WideShapes Go.ChangeAt Go.RowKit
open Go.ChangeMaps (open_string shut_string)
open Go.Proofs.Ytgofhadpoelmiaa.Oct
set_option linter.unusedVariables false      -- a walk need not use every 'w<i>' (that an integer argument fits its kind)

theorem own : ownKnob Try.prog.godebug = none := by kernel_rfl

theorem sum8 (x c y : Nat) (hx : x ≤ 281474976710656) (hc : c < 256) (h : y = x * 256 + c) : wrap64 ((x : Int) * 256 + wrap64 (c : Int)) = (y : Int) := by
  rw [IntWalk.wrap64_in (c : Int) (by omega), IntWalk.wrap64_in _ (by omega)]; omega

theorem pw_of (n k : Nat) (h : n < pw k) : sh n k = 0 := by unfold sh; exact Nat.div_eq_of_lt h

theorem be_getElem (n k j : Nat) (h : j < (be n k).length) : ((be n k)[j]).toNat = sh n (k - 1 - j) % 256 := by
  induction k generalizing j with
  | zero => simp [be] at h
  | succ k ih =>
    cases j with
    | zero => simp [be_succ]
    | succ j =>
      simp only [be_succ, List.getElem_cons_succ]
      rw [ih j (by simpa [be_succ] using h)]
      congr 2
      omega

/-- bytes that make the number -/
theorem put_bytes (n k : Nat) (h1 : 1 ≤ k) (h7 : k ≤ 7) (hn : n < pw k) : ∃ s : ByteArray, s.size = k ∧ (∀ j (h : j < s.size), s[j].toNat = sh n (k - 1 - j) % 256) ∧
    (∀ w : World, Calls Try.prog 7 #[.int .i64 n, .int .i64 k] w fun e w' => e = .returned (.tuple #[.string s, .bool true]) ∧ Below w.heap.size w w') := by
  refine ⟨⟨(be n k).toArray⟩, ?_, ?_, fun w => put_yes n k w h1 h7 hn⟩
  · show (be n k).toArray.size = k; simp [be_length]
  · intro j h
    have h' : j < (be n k).length := by
      have e : (ByteArray.mk (be n k).toArray).size = (be n k).length := by show (be n k).toArray.size = _; simp
      omega
    exact be_getElem n k j h'

set_option maxHeartbeats 800000 in
theorem walk_no (n k : Int) (w : World) (hf : fitsB n k = false) :
    Calls Try.prog 4 #[.int .i64 n, .int .i64 k] w fun e w' => e = .returned (.bool true) ∧ Below w.heap.size w w' := by
  go_enter Try.func4, Try.ntmps4
  go_wp2_with fail
  refine (put_no n k _ hf).mono ?_
  rintro e w1 ⟨rfl, hb1⟩
  go_wp2_with fail
  refine (awake_any _).mono ?_
  rintro e w2 ⟨rfl, hb2⟩
  go_wp2_with fail
  refine (fits_any _ _ _).mono ?_
  rintro e w3 ⟨rfl, rfl⟩
  go_wp2
  go_ret
  exact ⟨rfl, bcall hb1 hb2⟩

set_option maxHeartbeats 800000 in
theorem walk_yes (n k : Nat) (w : World) (h1 : 1 ≤ k) (h7 : k ≤ 7) (hn : n < pw k) :
    Calls Try.prog 4 #[.int .i64 n, .int .i64 k] w fun e w' => e = .returned (.bool true) ∧ Below w.heap.size w w' := by
  have hf : fitsB n k = true := by rw [fitsB_iff]; simp; omega
  have hn' : n ≤ 72057594037927936 := by have := pw_le k h7; omega
  have H0 := Lib.hid (pw_of n k hn)
  have HF := Lib.hid hf
  obtain ⟨s, rfl, hs, P⟩ := put_bytes n k h1 h7 hn
  have HS := Lib.hid hs
  clear hf hn hs
  go_enter Try.func4, Try.ntmps4
  go_wp2_with fail
  refine (P _).mono ?_
  rintro e w1 ⟨rfl, hb1⟩
  go_wp2
  go_loop [7, 8] (fun m i => ∃ j : Nat, j ≤ s.size ∧ i = .int .i64 j ∧ m = .int .i64 (sh n (s.size - j) : Nat)) (fun _ i => s.size - (intOf i).toNat)
  case atStart => exact ⟨0, Nat.zero_le _, rfl, by rw [Nat.sub_zero, H0.out]; rfl⟩
  case round =>
    obtain ⟨j, hj, rfl, rfl⟩ := hrel
    have hq := sh_le n (s.size - j)
    by_cases hlt : j < s.size
    · have HC : Hid (sh n (s.size - j) = sh n (s.size - (j + 1)) / 256 ∧ s[j].toNat = sh n (s.size - (j + 1)) % 256) := by
        refine Lib.hid ⟨?_, ?_⟩
        · rw [← sh_succ]; congr 1; omega
        · rw [HS.out j hlt]; congr 2; omega
      have hq' := sh_le n (s.size - (j + 1))
      have hlim : sh n (s.size - j) ≤ 281474976710656 := by have := HC.out.1; omega
      go_wp2
      go_round
      case rel => exact ⟨j + 1, by omega, by go_num, congrArg (Value.int IntKind.i64) (sum8 _ _ _ hlim (UInt8.toNat_lt _) (by have := HC.out; omega))⟩
      case measure => simp [intOf]; omega
    · obtain rfl : j = s.size := by omega
      go_wp2_with fail
      refine (awake_any _).mono ?_
      rintro e w2 ⟨rfl, hb2⟩
      have hz := sh_zero n
      go_wp2_with fail
      refine (fits_any _ _ _).mono ?_
      rintro e w3 ⟨rfl, rfl⟩
      have hf := HF.out
      go_wp2
      go_ret
      exact ⟨rfl, bcall hb1 hb2⟩

theorem walk (a0 : Int) (a1 : Int) (w0 : (Lit.int .i64 a0).wf = true) (w1 : (Lit.int .i64 a1).wf = true) (w : World) :
    Calls Try.prog 4 #[.int .i64 a0, .int .i64 a1] w fun e w' => e = .returned (.bool true) ∧ Below w.heap.size w w' := by
  by_cases hf : fitsB a0 a1 = true
  · obtain ⟨h1, h2, h3, h4⟩ := (fitsB_iff a0 a1).1 hf
    obtain ⟨n, rfl⟩ := Int.eq_ofNat_of_zero_le h3
    obtain ⟨k, rfl⟩ := Int.eq_ofNat_of_zero_le (show 0 ≤ a1 by omega)
    exact walk_yes n k w (by omega) (by omega) (by simpa using h4)
  · exact walk_no a0 a1 w (by simpa using hf)

set_option maxRecDepth 100000 in
theorem lifted (os : Os) (started : os.Started) (H : Type) (enc : TypeId × Value → H) :
    ReturnsInHanded {} Try.checked os 4 .any (Rows.octetBackSpec.pre6 enc Try.prog Try.f4 Rows.octetBackRow.domain false) (Rows.octetBackSpec.post enc Try.prog Try.f4 false true false false) := by
  refine returnsInHanded_of_change (C := Try.checked) own started (by kernel_rfl) Try.func4
    (ChangeSpec.witness6 (enc := enc) (C := Try.checked) false ⟨#[], #[.int .i64 0, .int .i64 0], []⟩ 8 (by kernel_rfl) (by kernel_rfl) (by kernel_rfl) (by kernel_rfl)) ?_
  intro W base args ds gs before hval0 hW hcnd _
  have hval : ∀ (j : Nat) t v, Try.f4.params[j]? = some t → args[j]? = some v → Value.okWide Try.prog W .any base t v := hval0
  have hW' := hW
  obtain ⟨p, q, hA0, hV, rfl, hfz, hnd⟩ := hW
  have hA : DataW.TrodAll enc Try.prog W 0 (fun _ => true) true Try.f4.params.toList args.toList ds p := hA0
  rw [Try.params4] at hA hval
  obtain ⟨v0, vs0, d0, ds0, p0, q0, hargs, rfl, rfl, h0, r0⟩ := trodAll_cons hA
  obtain ⟨v1, vs1, d1, ds1, p1, q1, rfl, rfl, rfl, h1, r1⟩ := trodAll_cons r0
  obtain ⟨rfl, rfl, rfl⟩ := trodAll_nil r1
  obtain rfl : args = #[v0, v1] := by cases args; simp_all
  obtain ⟨rfl, rfl⟩ := trodVars_none hV
  obtain ⟨a0, rfl, rfl, rfl, w0⟩ := open_int Try.underlying3 (hval 0 3 v0 rfl rfl) h0
  obtain ⟨a1, rfl, rfl, rfl, w1⟩ := open_int Try.underlying3 (hval 1 3 v1 rfl rfl) h1
  clear hA0 hval0
  simp only [List.append_nil] at hW'
  refine (walk a0 a1 w0 w1 W).mono fun e W' ⟨he, hg⟩ => ?_
  subst he
  exact ⟨_, rfl, _, _, _, [], _, [], hW', trodAll_mk1 (shut_bool Try.underlying4 _), (trodAll_cons_mk (shut_int Try.underlying3 w0) (trodAll_cons_mk (shut_int Try.underlying3 w1) trodAll_mk0)), rfl, hg.frame _, fun h => by cases h⟩

theorem over : Rows.octetBackRow.holds Try.pinned (OpenSpec.ofChange Rows.octetBackSpec) :=
  OpenClaim.holds_of_wide 4 Try.f4 rfl rfl rfl rfl rfl rfl rfl ⟨rfl, rfl, rfl, rfl, rfl⟩ rfl rfl rfl rfl rfl (by kernel_rfl) Try.func4 (by kernel_rfl)
    (of_decide_eq_true (by kernel_rfl)) (by unfold Func.isWrapper; first | (rw [if_pos (by decide +kernel)]; kernel_rfl) | (rw [if_neg (by decide +kernel)]; exact ⟨rfl, rfl⟩))
    (fun os started H enc _ => lifted os started H enc)

theorem proved : Rows.OctetBackSaid :=
  over
#print axioms proved
end Go.Proofs.Ytgofhadpoelmiaa.octetBack
