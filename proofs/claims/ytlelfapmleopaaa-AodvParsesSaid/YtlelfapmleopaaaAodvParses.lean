/-
  The statement AodvParses, of any bytes. No conditions.
-/
import Derived.Test.YtlelfapmleopaaaA5
import Derived.Test.YtlelfapmleopaaaOpen
namespace Go.Proofs.Ytlelfapmleopaaa.aodvParses
open Go.ChangeShapes Go.WideShapes Go.ChangeAt Go.RowKit
open Go.ChangeMaps (open_string shut_string)
open Go.Proofs.Ytlelfapmleopaaa.Ms
open Go.Proofs.Ytlelfapmleopaaa.All
open Go.Proofs.Ytlelfapmleopaaa.Am
open Go.Proofs.Ytlelfapmleopaaa.A1
open Go.Proofs.Ytlelfapmleopaaa.A2
open Go.Proofs.Ytlelfapmleopaaa.A3
open Go.Proofs.Ytlelfapmleopaaa.A5
open Go.Proofs.Ytlelfapmleopaaa.Open
set_option linter.unusedVariables false

theorem out_short (b : ByteArray) (hb : b.size ≤ 3000) : (∀ m ∈ (outA b).1, Short m) ∧ (outA b).1.length ≤ 1 := by
  rcases out_cases b with ⟨i, e, h, _⟩ | ⟨m, h, _, _, _, h1, h2⟩
  · rw [h]
    exact ⟨fun m hm => absurd hm (by simp), by simp⟩
  · rw [h]
    refine ⟨fun n hn => ?_, by simp⟩
    obtain rfl : n = m := by simpa using hn
    exact ⟨by omega, by omega⟩

set_option maxHeartbeats 1600000 in
theorem walk (b : ByteArray) (w : World) (hm : b.size ≤ maxLen) :
    Calls Try.prog 3 #[.string b] w fun r w' => r = .returned (.bool true) ∧ Below w.heap.size w w' := by
  unfold maxLen at hm
  by_cases hs : 3000 < b.size
  · go_enter Try.func3, Try.ntmps3
    go_wp2_with fail
    refine (awake_any _).mono ?_
    rintro r w1 ⟨rfl, hb⟩
    go_wp2
    go_ret
    exact ⟨rfl, hb⟩
  have P1 := Lib.hid (fun W => parse_any b W (by omega))
  have P2 := Lib.hid (fun W => rparse_any b W (by omega))
  have HS := Lib.hid (out_short b (by omega))
  rcases hq : outA b with ⟨l, x, y⟩
  rw [hq] at P1 P2 HS
  clear hq
  go_enter Try.func3, Try.ntmps3
  go_wp2_with fail
  refine (P1.out _).mono ?_
  rintro r w1 ⟨a1, k1, l1, rfl, p1, m1, hb⟩
  have M1 := Lib.hid m1
  have HP1 := Lib.hid p1
  clear m1 P1 p1
  dsimp only
  go_wp2_with fail
  refine (P2.out _).mono ?_
  rintro r w2 ⟨a2, k2, l2, rfl, p2, m2, hb2⟩
  have M2 := Lib.hid m2
  have HP2 := Lib.hid p2
  have M1 := Lib.hid (M1.out.below hb2)
  have bel := hb.trans (hb2.mono hb.size)
  clear m2 P2 hb hb2 p2
  dsimp only
  go_wp2_with fail
  refine (awake_any _).mono ?_
  rintro r w3 ⟨rfl, hb⟩
  have M2 := Lib.hid (M2.out.below hb)
  have M1 := Lib.hid (M1.out.below hb)
  have bel := bel.trans (hb.mono bel.size)
  clear hb
  have P3 := Lib.hid (rsameAll_any a1 a2 k1 k2 l1 l2 w3 M1.out M2.out (HP1.out.short HS.out.1) (HP2.out.short HS.out.1) (by rw [HP1.out.1]; exact Nat.le_trans HS.out.2 (by decide)) (by rw [HP2.out.1]; exact Nat.le_trans HS.out.2 (by decide)))
  rw [HP1.out.same HP2.out, show sameL l l = true from sameL_yes rfl fun i _ _ => All.same_refl _] at P3
  go_wp2_with fail
  refine P3.out.mono ?_
  rintro r w4 ⟨rfl, hb⟩
  have bel := bel.trans (hb.mono bel.size)
  clear hb P3 M1 M2
  go_wp2
  go_ret
  exact ⟨rfl, bel⟩

theorem own : ownKnob Try.prog.godebug = none := by kernel_rfl

set_option maxRecDepth 100000 in
theorem lifted (os : Os) (started : os.Started) (H : Type) (enc : TypeId × Value → H) :
    ReturnsInHanded {} Try.checked os 3 .any (Rows.aodvParsesSpec.pre6 enc Try.prog Try.f3 Rows.aodvParsesRow.domain false) (Rows.aodvParsesSpec.post enc Try.prog Try.f3 false true false false) := by
  refine returnsInHanded_of_change (C := Try.checked) own started (by kernel_rfl) Try.func3
    (ChangeSpec.witness6 (enc := enc) (C := Try.checked) false ⟨#[], #[.string ByteArray.empty], []⟩ 8 (by kernel_rfl) (by kernel_rfl) (by kernel_rfl) (by kernel_rfl)) ?_
  intro W base args ds gs before hval0 hW hcnd _
  have hval : ∀ (j : Nat) t v, Try.f3.params[j]? = some t → args[j]? = some v → Value.okWide Try.prog W .any base t v := hval0
  have hW' := hW
  have hlt := fun x hx => hW'.lt x hx
  obtain ⟨p, q, hA0, hV, rfl, hfz, hnd⟩ := hW
  have hA : DataW.TrodAll enc Try.prog W 0 (fun _ => true) true Try.f3.params.toList args.toList ds p := hA0
  rw [Try.params3] at hA hval
  obtain ⟨v0, vs0, d0, ds0, p0, q0, hargs, rfl, rfl, h0, r0⟩ := trodAll_cons hA
  obtain ⟨rfl, rfl, rfl⟩ := trodAll_nil r0
  obtain rfl : args = #[v0] := by cases args; simp_all
  obtain ⟨rfl, rfl⟩ := trodVars_none hV
  have k0 := h0
  obtain ⟨s, rfl, rfl, rfl, ws⟩ := open_string Try.underlying9 (hval 0 9 v0 rfl rfl) k0
  clear hA0 hval0
  simp only [List.append_nil] at hW' hlt
  refine (walk s W ws).mono fun e W' ⟨he, hg⟩ => ?_
  subst he
  exact ⟨_, rfl, _, _, _, [], _, [], hW', trodAll_mk1 (shut_bool Try.underlying4 _), (trodAll_cons_mk (again (by kernel_rfl) (of_decide_eq_true (by kernel_rfl)) h0 hg fun x hx => hlt x (by first | exact absurd hx (by simp) | simp [hx])) trodAll_mk0), rfl, hg.frame _, fun h => by cases h⟩

theorem over : Rows.aodvParsesRow.holds Try.pinned (OpenSpec.ofChange Rows.aodvParsesSpec) :=
  OpenClaim.holds_of_wide 3 Try.f3 rfl rfl rfl rfl rfl rfl rfl ⟨rfl, rfl, rfl, rfl, rfl⟩ rfl rfl rfl rfl rfl (by kernel_rfl) Try.func3 (by kernel_rfl)
    (of_decide_eq_true (by kernel_rfl)) (by unfold Func.isWrapper; first | (rw [if_pos (by decide +kernel)]; kernel_rfl) | (rw [if_neg (by decide +kernel)]; exact ⟨rfl, rfl⟩))
    (fun os started H enc _ => lifted os started H enc)

theorem proved : Rows.AodvParsesSaid :=
  over
#print axioms proved
end Go.Proofs.Ytlelfapmleopaaa.aodvParses
