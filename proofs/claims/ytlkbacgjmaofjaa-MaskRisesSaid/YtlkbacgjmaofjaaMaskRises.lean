/-
  MaskRises, of any two lengths: a longer mask begins with a shorter one, and is another one. No condition.
-/
import Derived.Test.YtlkbacgjmaofjaaPlen
import Derived.WalkKit
import Derived.ProofKit
import Derived.OpenShut
import Derived.ShutString
import Derived.WalkKit
import Derived.ProofKit
import Derived.OpenShut
import Derived.ShutString
namespace Go.Proofs.Ytlkbacgjmaofjaa.maskRises
open Go.ChangeShapes Go.WideShapes Go.ChangeAt Go.RowKit
open Go.ChangeMaps (open_string shut_string)
open Go.Proofs.Ytlkbacgjmaofjaa.Bits
open Go.Proofs.Ytlkbacgjmaofjaa.Mask
set_option linter.unusedVariables false      -- a walk need not use every 'w<i>' (that an integer argument fits its kind)

theorem own : ownKnob Try.prog.godebug = none := by kernel_rfl

theorem less_all : ∀ p, p ≤ 32 → ∀ q, q ≤ 32 → p ≤ q → (Op.bytesLess (keepL ffs p) (keepL ffs q) || keepL ffs p == keepL ffs q) = true := by decide +kernel

theorem leq_any (t : TypeId) (p q : Nat) (hq : q ≤ 32) (h : p ≤ q) : binOp .leq t (.string (maskB p)) (.string (maskB q)) = pure (.bool true) := by
  have e := less_all p (by omega) q hq h
  have e1 : (maskB p).toList = keepL ffs p := by rw [ByteArray.toList_eq]; rfl
  have e2 : (maskB q).toList = keepL ffs q := by rw [ByteArray.toList_eq]; rfl
  simp only [binOp, Op.stringOp, e1, e2]
  rw [e]

theorem keep_mask (p q : Nat) (h : p ≤ q) : (ByteArray.mk (keepL (maskB q).data.toList (p : Int).toNat).toArray) = maskB p := by
  show (ByteArray.mk (keepL (keepL ffs q) (p : Int).toNat).toArray) = _
  rw [Int.toNat_natCast, keepL_keep, Nat.min_eq_right h]
  rfl

theorem mask_inj (p q : Nat) (hp : p ≤ 32) (hq : q ≤ 32) (h : maskB p = maskB q) : p = q := by
  have := lenOf_mask p hp
  rw [h, lenOf_mask q hq] at this
  exact this.symm

set_option maxHeartbeats 1600000 in
theorem walk_in (m1 m2 p q : Nat) (w : World) (h1 : m1 < 256) (h2 : m2 < 256) (hp : p = min (m1 % 33) (m2 % 33)) (hq : q = max (m1 % 33) (m2 % 33)) :
    Calls Try.prog 5 #[.int .u8 (m1 : Int), .int .u8 (m2 : Int)] w fun e w' => e = .returned (.bool true) ∧ Below w.heap.size w w' := by
  have hpq : p ≤ q := by omega
  have hq32 : q ≤ 32 := by omega
  have hp32 : p ≤ 32 := by omega
  have P1 := Lib.hid (fun w => of_in p hp32 w)
  have P2 := Lib.hid (fun w => of_in q hq32 w)
  have P3 := Lib.hid (fun w => rkeep_any (maskB q) (p : Int) w (by
    show (keepL ffs q).toArray.size ≤ _
    rw [List.size_toArray, keepL_length]
    decide))
  rw [keep_mask p q hpq] at P3
  have hleq := fun t => leq_any t p q hq32 hpq
  have hxx := bytes_true (maskB p)
  have hE : ((maskB p).toList == (maskB q).toList) = ((p : Int) == (q : Int)) := by
    by_cases e : p = q
    · subst e; simp
    · have e' := bytes_false (fun h => e (mask_inj p q hp32 hq32 h))
      rw [e']
      simp
      omega
  generalize maskB p = x at *
  generalize maskB q = y at *
  clear hp32 hq32
  by_cases hs : m1 % 33 ≤ m2 % 33
  · have e1 : (m1 : Int) % 33 = (p : Int) := by omega
    have e2 : (m2 : Int) % 33 = (q : Int) := by omega
    have hle : ¬ ((p : Int) > (q : Int)) := by omega
    clear hs hp hq
    go_enter Try.func5, Try.ntmps5
    go_wp2_with fail
    refine (P1.out _).mono ?_
    rintro e w1 ⟨rfl, hb1⟩
    go_wp2_with fail
    refine (P2.out _).mono ?_
    rintro e w2 ⟨rfl, hb2⟩
    replace hb2 := bcall hb1 hb2
    clear hb1
    go_wp2_with fail
    refine (awake_any _).mono ?_
    rintro e w3 ⟨rfl, hb3⟩
    replace hb3 := bcall hb2 hb3
    clear hb2
    go_wp2_with fail
    refine (P3.out _).mono ?_
    rintro e w4 ⟨rfl, hb4⟩
    replace hb4 := bcall hb3 hb4
    clear hb3
    go_wp2
    go_ret
    exact ⟨rfl, hb4⟩
  · have e1 : (m1 : Int) % 33 = (q : Int) := by omega
    have e2 : (m2 : Int) % 33 = (p : Int) := by omega
    have hle : (q : Int) > (p : Int) := by omega
    clear hs hp hq
    go_enter Try.func5, Try.ntmps5
    go_wp2_with fail
    refine (P1.out _).mono ?_
    rintro e w1 ⟨rfl, hb1⟩
    go_wp2_with fail
    refine (P2.out _).mono ?_
    rintro e w2 ⟨rfl, hb2⟩
    replace hb2 := bcall hb1 hb2
    clear hb1
    go_wp2_with fail
    refine (awake_any _).mono ?_
    rintro e w3 ⟨rfl, hb3⟩
    replace hb3 := bcall hb2 hb3
    clear hb2
    go_wp2_with fail
    refine (P3.out _).mono ?_
    rintro e w4 ⟨rfl, hb4⟩
    replace hb4 := bcall hb3 hb4
    clear hb3
    go_wp2
    go_ret
    exact ⟨rfl, hb4⟩

theorem walk (a0 : Int) (a1 : Int) (w0 : (Lit.int .u8 a0).wf = true) (w1 : (Lit.int .u8 a1).wf = true) (w : World) :
    Calls Try.prog 5 #[.int .u8 a0, .int .u8 a1] w fun e w' => e = .returned (.bool true) ∧ Below w.heap.size w w' := by
  have hw := w0
  have hw' := w1
  simp only [Lit.wf, Bool.and_eq_true, decide_eq_true_eq] at hw hw'
  have hmin : IntKind.u8.min = 0 := rfl
  have hmax : IntKind.u8.max = 255 := rfl
  obtain ⟨m1, rfl⟩ : ∃ m : Nat, a0 = m := ⟨a0.toNat, by omega⟩
  obtain ⟨m2, rfl⟩ : ∃ m : Nat, a1 = m := ⟨a1.toNat, by omega⟩
  exact walk_in m1 m2 _ _ w (by omega) (by omega) rfl rfl

set_option maxRecDepth 100000 in
theorem lifted (os : Os) (started : os.Started) (H : Type) (enc : TypeId × Value → H) :
    ReturnsInHanded {} Try.checked os 5 .any (Rows.maskRisesSpec.pre6 enc Try.prog Try.f5 Rows.maskRisesRow.domain false) (Rows.maskRisesSpec.post enc Try.prog Try.f5 false true false false) := by
  refine returnsInHanded_of_change (C := Try.checked) own started (by kernel_rfl) Try.func5
    (ChangeSpec.witness6 (enc := enc) (C := Try.checked) false ⟨#[], #[.int .u8 0, .int .u8 0], []⟩ 8 (by kernel_rfl) (by kernel_rfl) (by kernel_rfl) (by kernel_rfl)) ?_
  intro W base args ds gs before hval0 hW hcnd _
  have hval : ∀ (j : Nat) t v, Try.f5.params[j]? = some t → args[j]? = some v → Value.okWide Try.prog W .any base t v := hval0
  have hW' := hW
  obtain ⟨p, q, hA0, hV, rfl, hfz, hnd⟩ := hW
  have hA : DataW.TrodAll enc Try.prog W 0 (fun _ => true) true Try.f5.params.toList args.toList ds p := hA0
  rw [Try.params5] at hA hval
  obtain ⟨v0, vs0, d0, ds0, p0, q0, hargs, rfl, rfl, h0, r0⟩ := trodAll_cons hA
  obtain ⟨v1, vs1, d1, ds1, p1, q1, rfl, rfl, rfl, h1, r1⟩ := trodAll_cons r0
  obtain ⟨rfl, rfl, rfl⟩ := trodAll_nil r1
  obtain rfl : args = #[v0, v1] := by cases args; simp_all
  obtain ⟨rfl, rfl⟩ := trodVars_none hV
  obtain ⟨a0, rfl, rfl, rfl, w0⟩ := open_int Try.underlying5 (hval 0 5 v0 rfl rfl) h0
  obtain ⟨a1, rfl, rfl, rfl, w1⟩ := open_int Try.underlying5 (hval 1 5 v1 rfl rfl) h1
  clear hA0 hval0
  simp only [List.append_nil] at hW'
  refine (walk a0 a1 w0 w1 W).mono fun e W' ⟨he, hg⟩ => ?_
  subst he
  exact ⟨_, rfl, _, _, _, [], _, [], hW', trodAll_mk1 (shut_bool Try.underlying4 _), (trodAll_cons_mk (shut_int Try.underlying5 w0) (trodAll_cons_mk (shut_int Try.underlying5 w1) trodAll_mk0)), rfl, hg.frame _, fun h => by cases h⟩

theorem over : Rows.maskRisesRow.holds Try.pinned (OpenSpec.ofChange Rows.maskRisesSpec) :=
  OpenClaim.holds_of_wide 5 Try.f5 rfl rfl rfl rfl rfl rfl rfl ⟨rfl, rfl, rfl, rfl, rfl⟩ rfl rfl rfl rfl rfl (by kernel_rfl) Try.func5 (by kernel_rfl)
    (of_decide_eq_true (by kernel_rfl)) (by unfold Func.isWrapper; first | (rw [if_pos (by decide +kernel)]; kernel_rfl) | (rw [if_neg (by decide +kernel)]; exact ⟨rfl, rfl⟩))
    (fun os started H enc _ => lifted os started H enc)

theorem proved : Rows.MaskRisesSaid :=
  over
#print axioms proved
end Go.Proofs.Ytlkbacgjmaofjaa.maskRises
