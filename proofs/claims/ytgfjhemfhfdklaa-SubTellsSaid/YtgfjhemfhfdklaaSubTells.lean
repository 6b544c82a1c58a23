/-
  The statement SubTells, of any Subs and any bytes. No conditions.
-/
import Derived.Test.YtgfjhemfhfdklaaS7
namespace Go.Proofs.Ytgfjhemfhfdklaa.subTells
open Go.ChangeShapes Go.WideShapes Go.ChangeAt Go.RowKit
open Go.ChangeMaps (open_string shut_string)
open Go.Proofs.Ytgfjhemfhfdklaa.Ms
open Go.Proofs.Ytgfjhemfhfdklaa.Cnt
open Go.Proofs.Ytgfjhemfhfdklaa.Sm
open Go.Proofs.Ytgfjhemfhfdklaa.S1
open Go.Proofs.Ytgfjhemfhfdklaa.S2
open Go.Proofs.Ytgfjhemfhfdklaa.S3
open Go.Proofs.Ytgfjhemfhfdklaa.S4
open Go.Proofs.Ytgfjhemfhfdklaa.S5
open Go.Proofs.Ytgfjhemfhfdklaa.S6
open Go.Proofs.Ytgfjhemfhfdklaa.S7
open Go.Proofs.Ytgfjhemfhfdklaa.Open
set_option linter.unusedVariables false

theorem bytes_same (a : ByteArray) : (a.toList == a.toList) = true := by simp
theorem bool_same (a : Bool) : (a == a) = true := by simp
theorem int_same (a : Int) : (a == a) = true := by simp

set_option maxHeartbeats 6400000 in
set_option maxRecDepth 100000 in
theorem walk (a : Option Addr) (c : Nat) (l : List El) (s : ByteArray) (w : World) (hl : SRow w a l) (hn : l.length ≤ 9223372036854775807) (hm : s.size ≤ maxLen) :
    Calls Try.prog 3 #[.slice a l.length c, .string s] w fun r w' => r = .returned (.bool true) ∧ Below w.heap.size w w' := by
  unfold maxLen at hm
  have PF := Lib.hid (few_any a c l w hl)
  by_cases hf : fewS l = true
  rotate_left
  · have hf : fewS l = false := by simpa using hf
    rw [hf] at PF
    clear hf hl hn
    go_enter Try.func3, Try.ntmps3
    go_wp2_with fail
    refine (PF.out).mono ?_
    rintro r w1 ⟨rfl, hb⟩
    have HB := Lib.hid hb
    clear hb  PF
    go_wp2_with fail
    refine (awake_any _).mono ?_
    rintro r w2 ⟨rfl, hb⟩
    have HB := Lib.hid (bcall HB.out hb)
    clear hb
    go_wp2
    go_ret
    exact ⟨rfl, HB.out⟩
  have HL1 := Lib.hid (few_len hf)
  have HL2 := Lib.hid (show ∀ x ∈ l, x.1.size ≤ 1099511627776 from fun x hx => by have := few_size hf x hx; omega)
  rw [hf] at PF
  have HR := Lib.hid hl
  clear hf hl hn
  by_cases hs : 1000 < s.size
  · go_enter Try.func3, Try.ntmps3
    go_wp2_with fail
    refine (PF.out).mono ?_
    rintro r w1 ⟨rfl, hb⟩
    have HB := Lib.hid hb
    clear hb  PF
    go_wp2_with fail
    refine (awake_any _).mono ?_
    rintro r w2 ⟨rfl, hb⟩
    have HB := Lib.hid (bcall HB.out hb)
    clear hb
    go_wp2
    go_ret
    exact ⟨rfl, HB.out⟩
  have P1 := Lib.hid (fun W => get_own s W (by omega))
  have P2 := Lib.hid (fun W => rget_own s W (by omega))
  have HO := Lib.hid (show (outS s).1.length ≤ 1048576 by have := outS_len s; omega)
  rcases hq : outS s with ⟨m, x, y⟩
  rw [hq] at P1 P2 HO
  clear hq
  dsimp only at HO
  have PP := Lib.hid (fun W (hb : Below w.heap.size w W) => put_any a c l W (HR.out.below hb) (by have := HL1.out; omega) HL2.out)
  have PQ := Lib.hid (fun W (hb : Below w.heap.size w W) => rput_any a c l W (HR.out.below hb) (by have := HL1.out; omega) HL2.out)
  have PR := Lib.hid (fun W (hb : Below w.heap.size w W) => right_any a c l W (HR.out.below hb) (by have := HL1.out; omega) HL2.out)
  have PT := Lib.hid (fun W (hb : Below w.heap.size w W) => rright_any a c l W (HR.out.below hb) (by have := HL1.out; omega) HL2.out)
  generalize okS l = ok at *
  generalize putS l = z at *
  have hz := bytes_same z
  have ho := bool_same ok
  have hx := bool_same x
  have hy := int_same y
  have hs2 : (s.size : Int) ≤ 1000 := by omega
  go_enter Try.func3, Try.ntmps3
  go_wp2_with fail
  refine (PF.out).mono ?_
  rintro r w1 ⟨rfl, hb⟩
  have HB := Lib.hid hb
  clear hb  PF
  go_wp2_with fail
  refine (PP.out _ HB.out).mono ?_
  rintro r w2 ⟨rfl, hb⟩
  have HB := Lib.hid (bcall HB.out hb)
  clear hb  PP
  go_wp2_with fail
  refine (PQ.out _ HB.out).mono ?_
  rintro r w3 ⟨rfl, hb⟩
  have HB := Lib.hid (bcall HB.out hb)
  clear hb  PQ
  go_wp2_with fail
  refine (P1.out _).mono ?_
  rintro r w4 ⟨a1, k1, rfl, m1, hb⟩
  have M1 := Lib.hid m1.row
  have HB := Lib.hid (bcall HB.out hb)
  clear hb  P1 m1
  dsimp only [List.length_nil]
  go_wp2_with fail
  refine (P2.out _).mono ?_
  rintro r w5 ⟨a2, k2, rfl, m1, hb⟩
  have M1 := Lib.hid (M1.out.below hb)
  have M2 := Lib.hid m1.row
  have HB := Lib.hid (bcall HB.out hb)
  clear hb  P2 m1
  dsimp only [List.length_nil]
  go_wp2_with fail
  refine (awake_any _).mono ?_
  rintro r w6 ⟨rfl, hb⟩
  have M1 := Lib.hid (M1.out.below hb)
  have M2 := Lib.hid (M2.out.below hb)
  have HB := Lib.hid (bcall HB.out hb)
  clear hb
  go_wp2_with fail
  refine (PR.out _ HB.out).mono ?_
  rintro r w7 ⟨rfl, hb⟩
  have M1 := Lib.hid (M1.out.below hb)
  have M2 := Lib.hid (M2.out.below hb)
  have HB := Lib.hid (bcall HB.out hb)
  clear hb  PR
  go_wp2_with fail
  refine (PT.out _ HB.out).mono ?_
  rintro r w8 ⟨rfl, hb⟩
  have M1 := Lib.hid (M1.out.below hb)
  have M2 := Lib.hid (M2.out.below hb)
  have HB := Lib.hid (bcall HB.out hb)
  clear hb  PT
  have PS := Lib.hid (same_any a1 a2 k1 k2 m m w8 M1.out M2.out HO.out HO.out)
  rw [decide_eq_true rfl] at PS
  go_wp2_with fail
  refine (PS.out).mono ?_
  rintro r w9 ⟨rfl, hb⟩
  have HB := Lib.hid (bcall HB.out hb)
  clear hb  PS M1 M2
  go_wp2
  go_ret
  exact ⟨rfl, HB.out⟩

theorem own : ownKnob Try.prog.godebug = none := by kernel_rfl

set_option maxRecDepth 100000 in
theorem lifted (os : Os) (started : os.Started) (H : Type) (enc : TypeId × Value → H) :
    ReturnsInHanded {} Try.checked os 3 .any (Rows.subTellsSpec.pre6 enc Try.prog Try.f3 Rows.subTellsRow.domain false) (Rows.subTellsSpec.post enc Try.prog Try.f3 false true false false) := by
  refine returnsInHanded_of_change (C := Try.checked) own started (by kernel_rfl) Try.func3
    (ChangeSpec.witness6 (enc := enc) (C := Try.checked) false ⟨#[], #[.slice none 0 0, .string ByteArray.empty], []⟩ 8 (by kernel_rfl) (by kernel_rfl) (by kernel_rfl) (by kernel_rfl)) ?_
  intro W base args ds gs before hval0 hW hcnd _
  have hval : ∀ (j : Nat) t v, Try.f3.params[j]? = some t → args[j]? = some v → Value.okWide Try.prog W .any base t v := hval0
  have hW' := hW
  have hlt := fun x hx => hW'.lt x hx
  obtain ⟨p, q, hA0, hV, rfl, hfz, hnd⟩ := hW
  have hA : DataW.TrodAll enc Try.prog W 0 (fun _ => true) true Try.f3.params.toList args.toList ds p := hA0
  rw [Try.params3] at hA hval
  obtain ⟨v0, vs0, d0, ds0, p0, q0, hargs, rfl, rfl, h0, r0⟩ := trodAll_cons hA
  obtain ⟨v1, vs1, d1, ds1, p1, q1, rfl, rfl, rfl, h1, r1⟩ := trodAll_cons r0
  obtain ⟨rfl, rfl, rfl⟩ := trodAll_nil r1
  obtain rfl : args = #[v0, v1] := by cases args; simp_all
  obtain ⟨rfl, rfl⟩ := trodVars_none hV
  obtain ⟨a, l, c, rfl, hl, ln⟩ := by_subs (hval 0 22 v0 rfl rfl) h0
  have k1 := h1
  obtain ⟨s, rfl, rfl, rfl, ws⟩ := open_string Try.underlying9 (hval 1 9 v1 rfl rfl) k1
  clear hA0 hval0
  simp only [List.append_nil] at hW' hlt
  refine (walk a c l s W hl ln ws).mono fun e W' ⟨he, hg⟩ => ?_
  subst he
  exact ⟨_, rfl, _, _, _, [], _, [], hW', trodAll_mk1 (shut_bool Try.underlying4 _), (trodAll_cons_mk (again (by kernel_rfl) (of_decide_eq_true (by kernel_rfl)) h0 hg fun x hx => hlt x (by first | exact absurd hx (by simp) | simp [hx])) (trodAll_cons_mk (again (by kernel_rfl) (of_decide_eq_true (by kernel_rfl)) h1 hg fun x hx => hlt x (by first | exact absurd hx (by simp) | simp [hx])) trodAll_mk0)), rfl, hg.frame _, fun h => by cases h⟩

theorem over : Rows.subTellsRow.holds Try.pinned (OpenSpec.ofChange Rows.subTellsSpec) :=
  OpenClaim.holds_of_wide 3 Try.f3 rfl rfl rfl rfl rfl rfl rfl ⟨rfl, rfl, rfl, rfl, rfl⟩ rfl rfl rfl rfl rfl (by kernel_rfl) Try.func3 (by kernel_rfl)
    (of_decide_eq_true (by kernel_rfl)) (by unfold Func.isWrapper; first | (rw [if_pos (by decide +kernel)]; kernel_rfl) | (rw [if_neg (by decide +kernel)]; exact ⟨rfl, rfl⟩))
    (fun os started H enc _ => lifted os started H enc)

theorem proved : Rows.SubTellsSaid :=
  over
#print axioms proved
end Go.Proofs.Ytgfjhemfhfdklaa.subTells
