/-
  The statement ExtTells, of any extensions and any bytes. No conditions.
-/
import Derived.Test.YtcpngemhnnijbaaXo
namespace Go.Proofs.Ytcpngemhnnijbaa.extTells
open Go.ChangeShapes Go.WideShapes Go.ChangeAt Go.RowKit
open Go.ChangeMaps (open_string shut_string)
open Go.Proofs.Ytcpngemhnnijbaa.Ms
open Go.Proofs.Ytcpngemhnnijbaa.Xv
open Go.Proofs.Ytcpngemhnnijbaa.Xc
open Go.Proofs.Ytcpngemhnnijbaa.Xp
open Go.Proofs.Ytcpngemhnnijbaa.Xq
open Go.Proofs.Ytcpngemhnnijbaa.Xa
open Go.Proofs.Ytcpngemhnnijbaa.Xo
open Go.Proofs.Ytcpngemhnnijbaa.Open
set_option linter.unusedVariables false

theorem built_one (a : Option Addr) (c : Nat) (l : List El) : Try.prog.built 33 [(24, .slice a l.length c)] = some (mS a l c).cells := built_mS a l.length c l rfl
theorem bytes_same (a : ByteArray) : (a.toList == a.toList) = true := by simp
theorem bool_same (a : Bool) : (a == a) = true := by simp
theorem int_same (a : Int) : (a == a) = true := by simp

set_option maxHeartbeats 6400000 in
set_option maxRecDepth 100000 in
theorem walk (a : Option Addr) (c : Nat) (l : List El) (s : ByteArray) (w : World) (hl : SRow w a l) (hn : l.length ≤ 9223372036854775807) (hm : s.size ≤ maxLen) :
    Calls Try.prog 3 #[.slice a l.length c, .string s] w fun r w' => r = .returned (.bool true) ∧ Below w.heap.size w w' := by
  unfold maxLen at hm
  have PF := Lib.hid (few_any a c l w hl)
  by_cases hf : fewS l = true
  rotate_left
  · have hf : fewS l = false := by simpa using hf
    rw [hf] at PF
    clear hf hl hn
    go_enter Try.func3, Try.ntmps3
    go_wp2_with fail
    refine PF.out.mono ?_
    rintro r w1 ⟨rfl, hb⟩
    have HB := Lib.hid hb
    clear hb PF
    go_wp2_with fail
    refine (awake_any _).mono ?_
    rintro r w2 ⟨rfl, hb⟩
    have HB := Lib.hid (HB.out.trans (hb.mono HB.out.size))
    clear hb
    go_wp2
    go_ret
    exact ⟨rfl, HB.out⟩
  have HL1 := Lib.hid (few_len hf)
  have HL2 := Lib.hid (few_size hf)
  rw [hf] at PF
  have HR := Lib.hid hl
  clear hf hl
  by_cases hs : 1000 < s.size
  · clear hn
    go_enter Try.func3, Try.ntmps3
    go_wp2_with fail
    refine PF.out.mono ?_
    rintro r w1 ⟨rfl, hb⟩
    have HB := Lib.hid hb
    clear hb PF
    go_wp2_with fail
    refine (awake_any _).mono ?_
    rintro r w2 ⟨rfl, hb⟩
    have HB := Lib.hid (HB.out.trans (hb.mono HB.out.size))
    clear hb
    go_wp2
    go_ret
    exact ⟨rfl, HB.out⟩
  have P1 := Lib.hid (fun W => get_any s W (by omega))
  have P2 := Lib.hid (fun W => rget_any s W (by omega))
  have HO := Lib.hid (show (outX s).1.length ≤ 1048576 by have := out_len s; omega)
  rcases hq : outX s with ⟨m, x, y⟩
  rw [hq] at P1 P2 HO
  clear hq hn
  dsimp only at HO
  have PP := Lib.hid (fun W (hb : Below w.heap.size w W) => put_any a c l W (HR.out.below hb) (by have := HL1.out; omega) HL2.out)
  have PQ := Lib.hid (fun W (hb : Below w.heap.size w W) => rput_any a c l W (HR.out.below hb) (by have := HL1.out; omega) HL2.out)
  have PR := Lib.hid (fun W (hb : Below w.heap.size w W) => right_any a c l W (HR.out.below hb) (by have := HL1.out; omega) HL2.out)
  have PT := Lib.hid (fun W (hb : Below w.heap.size w W) => rright_any a c l W (HR.out.below hb) (by have := HL1.out; omega) HL2.out)
  generalize okX l = ok at *
  generalize putS l = z at *
  have hz := bytes_same z
  have ho := bool_same ok
  have hs2 : (s.size : Int) ≤ 1000 := by omega
  go_enter Try.func3, Try.ntmps3
  go_wp2_with fail
  refine PF.out.mono ?_
  rintro r w1 ⟨rfl, hb⟩
  have HB := Lib.hid hb
  clear hb PF
  go_wp2_with fail
  refine (PP.out _ HB.out).mono ?_
  rintro r w2 ⟨rfl, hb⟩
  have HB := Lib.hid (HB.out.trans (hb.mono HB.out.size))
  clear hb PP
  go_wp2_with fail
  refine (PQ.out _ HB.out).mono ?_
  rintro r w3 ⟨rfl, hb⟩
  have HB := Lib.hid (HB.out.trans (hb.mono HB.out.size))
  clear hb PQ
  go_wp2_with fail
  refine (P1.out _).mono ?_
  rintro r w4 ⟨a1, k1, rfl, m1, hb⟩
  have M1 := Lib.hid m1
  have HB := Lib.hid (HB.out.trans (hb.mono HB.out.size))
  clear hb m1 P1
  dsimp only
  go_wp2_with fail
  refine (P2.out _).mono ?_
  rintro r w5 ⟨a2, k2, rfl, m2, hb⟩
  have M1 := Lib.hid (M1.out.below hb)
  have M2 := Lib.hid m2
  have HB := Lib.hid (HB.out.trans (hb.mono HB.out.size))
  clear hb m2 P2
  dsimp only
  go_wp2_with fail
  refine (awake_any _).mono ?_
  rintro r w6 ⟨rfl, hb⟩
  have M1 := Lib.hid (M1.out.below hb)
  have M2 := Lib.hid (M2.out.below hb)
  have HB := Lib.hid (HB.out.trans (hb.mono HB.out.size))
  clear hb
  go_wp2_with fail
  refine (PR.out _ HB.out).mono ?_
  rintro r w7 ⟨rfl, hb⟩
  have M1 := Lib.hid (M1.out.below hb)
  have M2 := Lib.hid (M2.out.below hb)
  have HB := Lib.hid (HB.out.trans (hb.mono HB.out.size))
  clear hb PR
  go_wp2_with fail
  refine (PT.out _ HB.out).mono ?_
  rintro r w8 ⟨rfl, hb⟩
  have M1 := Lib.hid (M1.out.below hb)
  have M2 := Lib.hid (M2.out.below hb)
  have HB := Lib.hid (HB.out.trans (hb.mono HB.out.size))
  clear hb PT
  have PS := Lib.hid (RSame.rsame_any (mS a1 m k1) (mS a2 m k2) w8 (in_mS M1.out HO.out) (in_mS M2.out HO.out))
  rw [same_mS, decide_eq_true rfl] at PS
  have hx := int_same x
  have hy := int_same y
  go_wp2_with fail
  refine PS.out.mono ?_
  rintro r w9 ⟨rfl, hb⟩
  have HB := Lib.hid (HB.out.trans (hb.mono HB.out.size))
  clear hb PS M1 M2
  go_wp2
  go_ret
  exact ⟨rfl, HB.out⟩

theorem own : ownKnob Try.prog.godebug = none := by kernel_rfl

set_option maxRecDepth 100000 in
theorem lifted (os : Os) (started : os.Started) (H : Type) (enc : TypeId × Value → H) :
    ReturnsInHanded {} Try.checked os 3 .any (Rows.extTellsSpec.pre6 enc Try.prog Try.f3 Rows.extTellsRow.domain false) (Rows.extTellsSpec.post enc Try.prog Try.f3 false true false false) := by
  refine returnsInHanded_of_change (C := Try.checked) own started (by kernel_rfl) Try.func3
    (ChangeSpec.witness6 (enc := enc) (C := Try.checked) false ⟨#[], #[.slice none 0 0, .string ByteArray.empty], []⟩ 8 (by kernel_rfl) (by kernel_rfl) (by kernel_rfl) (by kernel_rfl)) ?_
  intro W base args ds gs before hval0 hW hcnd _
  have hval : ∀ (j : Nat) t v, Try.f3.params[j]? = some t → args[j]? = some v → Value.okWide Try.prog W .any base t v := hval0
  have hW' := hW
  have hlt := fun x hx => hW'.lt x hx
  obtain ⟨p, q, hA0, hV, rfl, hfz, hnd⟩ := hW
  have hA : DataW.TrodAll enc Try.prog W 0 (fun _ => true) true Try.f3.params.toList args.toList ds p := hA0
  rw [Try.params3] at hA hval
  obtain ⟨v0, vs0, d0, ds0, p0, q0, hargs, rfl, rfl, h0, r0⟩ := trodAll_cons hA
  obtain ⟨v1, vs1, d1, ds1, p1, q1, rfl, rfl, rfl, h1, r1⟩ := trodAll_cons r0
  obtain ⟨rfl, rfl, rfl⟩ := trodAll_nil r1
  obtain rfl : args = #[v0, v1] := by cases args; simp_all
  obtain ⟨rfl, rfl⟩ := trodVars_none hV
  obtain ⟨a, l, c, rfl, hl, ln⟩ := by_subs (hval 0 22 v0 rfl rfl) h0
  have k1 := h1
  obtain ⟨s, rfl, rfl, rfl, ws⟩ := open_string Try.underlying9 (hval 1 9 v1 rfl rfl) k1
  clear hA0 hval0
  simp only [List.append_nil] at hW' hlt
  refine (walk a c l s W hl ln ws).mono fun e W' ⟨he, hg⟩ => ?_
  subst he
  exact ⟨_, rfl, _, _, _, [], _, [], hW', trodAll_mk1 (shut_bool Try.underlying4 _), (trodAll_cons_mk (again (by kernel_rfl) (of_decide_eq_true (by kernel_rfl)) h0 hg fun x hx => hlt x (by first | exact absurd hx (by simp) | simp [hx])) (trodAll_cons_mk (again (by kernel_rfl) (of_decide_eq_true (by kernel_rfl)) h1 hg fun x hx => hlt x (by first | exact absurd hx (by simp) | simp [hx])) trodAll_mk0)), rfl, hg.frame _, fun h => by cases h⟩

theorem over : Rows.extTellsRow.holds Try.pinned (OpenSpec.ofChange Rows.extTellsSpec) :=
  OpenClaim.holds_of_wide 3 Try.f3 rfl rfl rfl rfl rfl rfl rfl ⟨rfl, rfl, rfl, rfl, rfl⟩ rfl rfl rfl rfl rfl (by kernel_rfl) Try.func3 (by kernel_rfl)
    (of_decide_eq_true (by kernel_rfl)) (by unfold Func.isWrapper; first | (rw [if_pos (by decide +kernel)]; kernel_rfl) | (rw [if_neg (by decide +kernel)]; exact ⟨rfl, rfl⟩))
    (fun os started H enc _ => lifted os started H enc)

theorem proved : Rows.ExtTellsSaid :=
  over
#print axioms proved
end Go.Proofs.Ytcpngemhnnijbaa.extTells
