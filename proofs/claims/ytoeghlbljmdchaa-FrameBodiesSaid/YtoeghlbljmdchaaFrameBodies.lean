/-
  The statement FrameBodies, of any bytes. No conditions.
-/
import Derived.Test.YtoeghlbljmdchaaF8
namespace Go.Proofs.Ytoeghlbljmdchaa.frameBodies
open Go.ChangeShapes Go.WideShapes Go.ChangeAt Go.RowKit
open Go.ChangeMaps (open_string shut_string)
open Go.Proofs.Ytoeghlbljmdchaa.F1
open Go.Proofs.Ytoeghlbljmdchaa.F2
open Go.Proofs.Ytoeghlbljmdchaa.F6
open Go.Proofs.Ytoeghlbljmdchaa.F7
open Go.Proofs.Ytoeghlbljmdchaa.Open
set_option linter.unusedVariables false

theorem out_e {b : ByteArray} {i x : Int} (h : head b = some (i, x)) : ¬ x = 0 := by
  unfold head at h
  split at h
  · simp only [Option.some.injEq, Prod.mk.injEq] at h; omega
  split at h
  · simp only [Option.some.injEq, Prod.mk.injEq] at h; omega
  split at h
  · simp only [Option.some.injEq, Prod.mk.injEq] at h; omega
  split at h
  · simp only [Option.some.injEq, Prod.mk.injEq] at h; omega
  split at h
  · simp only [Option.some.injEq, Prod.mk.injEq] at h; omega
  cases h
theorem int_same (i : Int) : (i == i) = true := by simp

set_option maxHeartbeats 6400000 in
set_option maxRecDepth 100000 in
theorem walk (b : ByteArray) (w : World) (hm : b.size ≤ maxLen) :
    Calls Try.prog 3 #[.string b] w fun r w' => r = .returned (.bool true) ∧ Below w.heap.size w w' := by
  by_cases hs : 3000 < b.size
  · unfold maxLen at hm
    go_enter Try.func3, Try.ntmps3
    go_wp2_with fail
    refine (awake_any _).mono ?_
    rintro r w1 ⟨rfl, hb⟩
    go_wp2
    go_ret
    exact ⟨rfl, hb⟩
  have P1 := Lib.hid (fun W => body_any b W hm)
  have P2 := Lib.hid (fun W => rbody_any b W hm)
  have P3 := Lib.hid (fun W => wrap_any b W (by omega))
  have P4 := Lib.hid (fun W => rwrap_any b W (by omega))
  have hw1 : decide (b.size ≤ 65531) = true := decide_eq_true (by omega)
  unfold WrapIs at P3 P4
  rw [hw1] at P3 P4
  unfold BodyIs at P1 P2
  have e3 := bytes_same (wrap b)
  generalize wrap b = u at *
  clear hw1
  cases hh : head b with
  | none =>
    rw [out_good hh] at P1 P2
    have P5 := Lib.hid (fun W => trailer_any b W hm hh)
    have P6 := Lib.hid (fun W => rtrailer_any b W hm hh)
    have e1 := bytes_same (b.extract 4 (4 + bodyN b))
    have e2 := bytes_same (trail b)
    generalize b.extract 4 (4 + bodyN b) = s at *
    generalize trail b = t at *
    clear hh hm
    go_enter Try.func3, Try.ntmps3
    go_wp2_with fail
    refine (P1.out _).mono ?_
    rintro r w1 ⟨rfl, hb⟩
    have HB := Lib.hid hb
    clear hb P1
    dsimp only
    go_wp2_with fail
    refine (P2.out _).mono ?_
    rintro r w2 ⟨rfl, hb⟩
    have HB := Lib.hid (bcall HB.out hb)
    clear hb P2
    dsimp only
    go_wp2_with fail
    refine (P3.out _).mono ?_
    rintro r w3 ⟨rfl, hb⟩
    have HB := Lib.hid (bcall HB.out hb)
    clear hb P3
    go_wp2_with fail
    refine (P4.out _).mono ?_
    rintro r w4 ⟨rfl, hb⟩
    have HB := Lib.hid (bcall HB.out hb)
    clear hb P4
    go_wp2_with fail
    refine (awake_any _).mono ?_
    rintro r w5 ⟨rfl, hb⟩
    have HB := Lib.hid (bcall HB.out hb)
    clear hb
    go_wp2_with fail
    refine (P5.out _).mono ?_
    rintro r w6 ⟨rfl, hb⟩
    have HB := Lib.hid (bcall HB.out hb)
    clear hb P5
    go_wp2_with fail
    refine (P6.out _).mono ?_
    rintro r w7 ⟨rfl, hb⟩
    have HB := Lib.hid (bcall HB.out hb)
    clear hb P6
    go_wp2
    go_ret
    exact ⟨rfl, HB.out⟩
  | some p =>
    obtain ⟨i, x⟩ := p
    rw [out_bad hh] at P1 P2
    have hx := out_e hh
    have e1 := bytes_same ⟨#[]⟩
    have e4 := int_same i
    have e5 := int_same x
    have e6 : (x == 0) = false := by simpa using hx
    have e7 : (x != 0) = true := by rw [bne, e6]; rfl
    clear hh hm
    go_enter Try.func3, Try.ntmps3
    go_wp2_with fail
    refine (P1.out _).mono ?_
    rintro r w1 ⟨rfl, hb⟩
    have HB := Lib.hid hb
    clear hb P1
    dsimp only
    go_wp2_with fail
    refine (P2.out _).mono ?_
    rintro r w2 ⟨rfl, hb⟩
    have HB := Lib.hid (bcall HB.out hb)
    clear hb P2
    dsimp only
    go_wp2_with fail
    refine (P3.out _).mono ?_
    rintro r w3 ⟨rfl, hb⟩
    have HB := Lib.hid (bcall HB.out hb)
    clear hb P3
    go_wp2_with fail
    refine (P4.out _).mono ?_
    rintro r w4 ⟨rfl, hb⟩
    have HB := Lib.hid (bcall HB.out hb)
    clear hb P4
    go_wp2_with fail
    refine (awake_any _).mono ?_
    rintro r w5 ⟨rfl, hb⟩
    have HB := Lib.hid (bcall HB.out hb)
    clear hb
    go_wp2
    go_ret
    exact ⟨rfl, HB.out⟩

theorem own : ownKnob Try.prog.godebug = none := by kernel_rfl

set_option maxRecDepth 100000 in
theorem lifted (os : Os) (started : os.Started) (H : Type) (enc : TypeId × Value → H) :
    ReturnsInHanded {} Try.checked os 3 .any (Rows.frameBodiesSpec.pre6 enc Try.prog Try.f3 Rows.frameBodiesRow.domain false) (Rows.frameBodiesSpec.post enc Try.prog Try.f3 false true false false) := by
  refine returnsInHanded_of_change (C := Try.checked) own started (by kernel_rfl) Try.func3
    (ChangeSpec.witness6 (enc := enc) (C := Try.checked) false ⟨#[], #[.string ByteArray.empty], []⟩ 8 (by kernel_rfl) (by kernel_rfl) (by kernel_rfl) (by kernel_rfl)) ?_
  intro W base args ds gs before hval0 hW hcnd _
  have hval : ∀ (j : Nat) t v, Try.f3.params[j]? = some t → args[j]? = some v → Value.okWide Try.prog W .any base t v := hval0
  have hW' := hW
  have hlt := fun x hx => hW'.lt x hx
  obtain ⟨p, q, hA0, hV, rfl, hfz, hnd⟩ := hW
  have hA : DataW.TrodAll enc Try.prog W 0 (fun _ => true) true Try.f3.params.toList args.toList ds p := hA0
  rw [Try.params3] at hA hval
  obtain ⟨v0, vs0, d0, ds0, p0, q0, hargs, rfl, rfl, h0, r0⟩ := trodAll_cons hA
  obtain ⟨rfl, rfl, rfl⟩ := trodAll_nil r0
  obtain rfl : args = #[v0] := by cases args; simp_all
  obtain ⟨rfl, rfl⟩ := trodVars_none hV
  have k0 := h0
  obtain ⟨s, rfl, rfl, rfl, ws⟩ := open_string Try.underlying9 (hval 0 9 v0 rfl rfl) k0
  clear hA0 hval0
  simp only [List.append_nil] at hW' hlt
  refine (walk s W ws).mono fun e W' ⟨he, hg⟩ => ?_
  subst he
  exact ⟨_, rfl, _, _, _, [], _, [], hW', trodAll_mk1 (shut_bool Try.underlying4 _), (trodAll_cons_mk (again (by kernel_rfl) (of_decide_eq_true (by kernel_rfl)) h0 hg fun x hx => hlt x (by first | exact absurd hx (by simp) | simp [hx])) trodAll_mk0), rfl, hg.frame _, fun h => by cases h⟩

theorem over : Rows.frameBodiesRow.holds Try.pinned (OpenSpec.ofChange Rows.frameBodiesSpec) :=
  OpenClaim.holds_of_wide 3 Try.f3 rfl rfl rfl rfl rfl rfl rfl ⟨rfl, rfl, rfl, rfl, rfl⟩ rfl rfl rfl rfl rfl (by kernel_rfl) Try.func3 (by kernel_rfl)
    (of_decide_eq_true (by kernel_rfl)) (by unfold Func.isWrapper; first | (rw [if_pos (by decide +kernel)]; kernel_rfl) | (rw [if_neg (by decide +kernel)]; exact ⟨rfl, rfl⟩))
    (fun os started H enc _ => lifted os started H enc)

theorem proved : Rows.FrameBodiesSaid :=
  over
#print axioms proved
end Go.Proofs.Ytoeghlbljmdchaa.frameBodies
