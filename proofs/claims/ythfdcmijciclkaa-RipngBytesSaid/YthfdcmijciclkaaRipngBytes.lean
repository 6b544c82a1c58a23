/-
  The statement RipngBytes, of any bytes. No conditions.
-/
import Derived.Test.YthfdcmijciclkaaAw
import Derived.Test.YthfdcmijciclkaaOpen
namespace Go.Proofs.Ythfdcmijciclkaa.ripngBytes
open Go.ChangeShapes Go.WideShapes Go.ChangeAt Go.RowKit
open Go.ChangeMaps (open_string shut_string)
open Go.Proofs.Ythfdcmijciclkaa.Ms
open Go.Proofs.Ythfdcmijciclkaa.Rp
open Go.Proofs.Ythfdcmijciclkaa.Pa
open Go.Proofs.Ythfdcmijciclkaa.Hs
open Go.Proofs.Ythfdcmijciclkaa.All
open Go.Proofs.Ythfdcmijciclkaa.Ec
open Go.Proofs.Ythfdcmijciclkaa.Aw
open Go.Proofs.Ythfdcmijciclkaa.Open
set_option linter.unusedVariables false

theorem bytes_same (a : ByteArray) : (a.toList == a.toList) = true := by simp

set_option maxHeartbeats 6400000 in
set_option maxRecDepth 100000 in
theorem walk (b : ByteArray) (w : World) (hm : b.size ≤ maxLen) :
    Calls Try.prog 5 #[.string b] w fun r w' => r = .returned (.bool true) ∧ Below w.heap.size w w' := by
  unfold maxLen at hm
  by_cases hs : 2000 < b.size
  · go_enter Try.func5, Try.ntmps5
    go_wp2_with fail
    refine (awake_any _).mono ?_
    rintro r w1 ⟨rfl, hb⟩
    go_wp2
    go_ret
    exact ⟨rfl, hb⟩
  have P1 := Lib.hid (fun W => Pa.parse_any b W (by omega))
  rcases Ma.out_two b with ⟨he, q1, q2, q3⟩ | ⟨n, g⟩
  · rcases hq : out b with ⟨l, x, y⟩
    rw [hq] at P1 he q1 q2 q3
    dsimp only at he q1 q2 q3
    subst q1
    have e1 : (y == 0) = false := by simpa using he
    have e2 : (y != 0) = true := by rw [bne, e1]; rfl
    clear hq he
    go_enter Try.func5, Try.ntmps5
    go_wp2_with fail
    refine (P1.out _).mono ?_
    rintro r w1 ⟨a1, k1, rfl, m1, hb⟩
    clear m1 P1
    dsimp only [List.length_nil]
    go_wp2_with fail
    refine (awake_any _).mono ?_
    rintro r w2 ⟨rfl, hb2⟩
    have bel := hb.trans (hb2.mono hb.size)
    clear hb hb2
    go_wp2
    go_ret
    exact ⟨rfl, bel⟩
  obtain ⟨S, hE, hS, hO, hl⟩ := g.back (by omega)
  have HF := Lib.hid (rts_flat b n)
  rw [g.o] at P1
  clear g
  generalize rts b n = l at *
  have HSh := Lib.hid (show ∀ m ∈ l, Short m from fun m hm => ⟨by rw [(HF.out m hm).1]; exact Nat.zero_le _, by rw [(HF.out m hm).2]; exact Nat.zero_le _⟩)
  have PE := Lib.hid (fun (a : Option Addr) (c : Nat) W (h : MRow W a l) => encode_any a c l W h HSh.out (by omega))
  rw [hE] at PE
  have P2 := Lib.hid (fun W => Pa.parse_any S W (by omega))
  rw [hO] at P2
  have hle : (S.size : Int) ≤ (b.size : Int) := by omega
  have hx := bytes_same S
  have HL := Lib.hid hl
  clear hE hO HF hl
  go_enter Try.func5, Try.ntmps5
  go_wp2_with fail
  refine (P1.out _).mono ?_
  rintro r w1 ⟨a1, k1, rfl, m1, hb⟩
  have M1 := Lib.hid m1
  clear m1 P1
  dsimp only
  go_wp2_with fail
  refine (PE.out a1 k1 _ M1.out).mono ?_
  rintro r w2 ⟨rfl, hb2⟩
  have M1 := Lib.hid (M1.out.below hb2)
  have bel := hb.trans (hb2.mono hb.size)
  clear hb hb2
  dsimp only
  go_wp2_with fail
  refine (P2.out _).mono ?_
  rintro r w3 ⟨a2, k2, rfl, m2, hb⟩
  have M2 := Lib.hid m2
  have M1 := Lib.hid (M1.out.below hb)
  have bel := bel.trans (hb.mono bel.size)
  clear m2 hb P2
  dsimp only
  go_wp2_with fail
  refine (PE.out a2 k2 _ M2.out).mono ?_
  rintro r w4 ⟨rfl, hb⟩
  have M2 := Lib.hid (M2.out.below hb)
  have M1 := Lib.hid (M1.out.below hb)
  have bel := bel.trans (hb.mono bel.size)
  clear hb PE
  dsimp only
  go_wp2_with fail
  refine (awake_any _).mono ?_
  rintro r w5 ⟨rfl, hb⟩
  have M2 := Lib.hid (M2.out.below hb)
  have M1 := Lib.hid (M1.out.below hb)
  have bel := bel.trans (hb.mono bel.size)
  clear hb
  have P3 := Lib.hid (rsameAll_any a1 a2 k1 k2 l l w5 M1.out M2.out HSh.out HSh.out (by have := HL.out; omega) (by have := HL.out; omega))
  rw [show sameL l l = true from sameL_yes rfl fun i _ _ => same_refl _] at P3
  go_wp2_with fail
  refine P3.out.mono ?_
  rintro r w6 ⟨rfl, hb⟩
  have bel := bel.trans (hb.mono bel.size)
  clear hb P3 M1 M2
  go_wp2
  go_ret
  exact ⟨rfl, bel⟩

theorem own : ownKnob Try.prog.godebug = none := by kernel_rfl

set_option maxRecDepth 100000 in
theorem lifted (os : Os) (started : os.Started) (H : Type) (enc : TypeId × Value → H) :
    ReturnsInHanded {} Try.checked os 5 .any (Rows.ripngBytesSpec.pre6 enc Try.prog Try.f5 Rows.ripngBytesRow.domain false) (Rows.ripngBytesSpec.post enc Try.prog Try.f5 false true false false) := by
  refine returnsInHanded_of_change (C := Try.checked) own started (by kernel_rfl) Try.func5
    (ChangeSpec.witness6 (enc := enc) (C := Try.checked) false ⟨#[], #[.string ByteArray.empty], []⟩ 8 (by kernel_rfl) (by kernel_rfl) (by kernel_rfl) (by kernel_rfl)) ?_
  intro W base args ds gs before hval0 hW hcnd _
  have hval : ∀ (j : Nat) t v, Try.f5.params[j]? = some t → args[j]? = some v → Value.okWide Try.prog W .any base t v := hval0
  have hW' := hW
  have hlt := fun x hx => hW'.lt x hx
  obtain ⟨p, q, hA0, hV, rfl, hfz, hnd⟩ := hW
  have hA : DataW.TrodAll enc Try.prog W 0 (fun _ => true) true Try.f5.params.toList args.toList ds p := hA0
  rw [Try.params5] at hA hval
  obtain ⟨v0, vs0, d0, ds0, p0, q0, hargs, rfl, rfl, h0, r0⟩ := trodAll_cons hA
  obtain ⟨rfl, rfl, rfl⟩ := trodAll_nil r0
  obtain rfl : args = #[v0] := by cases args; simp_all
  obtain ⟨rfl, rfl⟩ := trodVars_none hV
  have k0 := h0
  obtain ⟨s, rfl, rfl, rfl, ws⟩ := open_string Try.underlying9 (hval 0 9 v0 rfl rfl) k0
  clear hA0 hval0
  simp only [List.append_nil] at hW' hlt
  refine (walk s W ws).mono fun e W' ⟨he, hg⟩ => ?_
  subst he
  exact ⟨_, rfl, _, _, _, [], _, [], hW', trodAll_mk1 (shut_bool Try.underlying4 _), (trodAll_cons_mk (again (by kernel_rfl) (of_decide_eq_true (by kernel_rfl)) h0 hg fun x hx => hlt x (by first | exact absurd hx (by simp) | simp [hx])) trodAll_mk0), rfl, hg.frame _, fun h => by cases h⟩

theorem over : Rows.ripngBytesRow.holds Try.pinned (OpenSpec.ofChange Rows.ripngBytesSpec) :=
  OpenClaim.holds_of_wide 5 Try.f5 rfl rfl rfl rfl rfl rfl rfl ⟨rfl, rfl, rfl, rfl, rfl⟩ rfl rfl rfl rfl rfl (by kernel_rfl) Try.func5 (by kernel_rfl)
    (of_decide_eq_true (by kernel_rfl)) (by unfold Func.isWrapper; first | (rw [if_pos (by decide +kernel)]; kernel_rfl) | (rw [if_neg (by decide +kernel)]; exact ⟨rfl, rfl⟩))
    (fun os started H enc _ => lifted os started H enc)

theorem proved : Rows.RipngBytesSaid :=
  over
#print axioms proved
end Go.Proofs.Ythfdcmijciclkaa.ripngBytes
