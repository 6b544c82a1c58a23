/-
  The statement RipBytes, of any bytes. No conditions.
-/
import Derived.Test.YtfaobpmbiocafaaAw
import Derived.Test.YtfaobpmbiocafaaMa
import Derived.Test.YtfaobpmbiocafaaOpen
namespace Go.Proofs.Ytfaobpmbiocafaa.ripBytes
open Go.ChangeShapes Go.WideShapes Go.ChangeAt Go.RowKit
open Go.ChangeMaps (open_string shut_string)
open Go.Proofs.Ytfaobpmbiocafaa.Ms
open Go.Proofs.Ytfaobpmbiocafaa.Rp
open Go.Proofs.Ytfaobpmbiocafaa.Ps
open Go.Proofs.Ytfaobpmbiocafaa.Es
open Go.Proofs.Ytfaobpmbiocafaa.Rr
open Go.Proofs.Ytfaobpmbiocafaa.Hs
open Go.Proofs.Ytfaobpmbiocafaa.All
open Go.Proofs.Ytfaobpmbiocafaa.Ec
open Go.Proofs.Ytfaobpmbiocafaa.Ma
open Go.Proofs.Ytfaobpmbiocafaa.Aw
open Go.Proofs.Ytfaobpmbiocafaa.Open
open Go.Proofs.Ytfaobpmbiocafaa.Or
set_option linter.unusedVariables false

theorem bytes_same (a : ByteArray) : (a.toList == a.toList) = true := by simp

set_option maxHeartbeats 6400000 in
set_option maxRecDepth 100000 in
theorem walk (b : ByteArray) (w : World) (hm : b.size ≤ maxLen) :
    Calls Try.prog 5 #[.string b] w fun r w' => r = .returned (.bool true) ∧ Below w.heap.size w w' := by
  unfold maxLen at hm
  by_cases hs : 1000 < b.size
  · go_enter Try.func5, Try.ntmps5
    go_wp2_with fail
    refine (awake_any _).mono ?_
    rintro r w1 ⟨rfl, hb⟩
    go_wp2
    go_ret
    exact ⟨rfl, hb⟩
  have P1 := Lib.hid (fun W => Pa.parse_any b W (by omega))
  by_cases he : (out b).2.2 = 0
  rotate_left
  · obtain ⟨q1, q2, q3⟩ := out_err b he
    rcases hq : out b with ⟨l, x, y⟩
    rw [hq] at P1 he q1 q2 q3
    dsimp only at he q1 q2 q3
    subst q1
    have e1 : (y == 0) = false := by simpa using he
    have e2 : (y != 0) = true := by rw [bne, e1]; rfl
    clear hq he
    go_enter Try.func5, Try.ntmps5
    go_wp2_with fail
    refine (P1.out _).mono ?_
    rintro r w1 ⟨a1, k1, rfl, m1, hb⟩
    clear m1 P1
    dsimp only [List.length_nil]
    go_wp2_with fail
    refine (awake_any _).mono ?_
    rintro r w2 ⟨rfl, hb2⟩
    have bel := hb.trans (hb2.mono hb.size)
    clear hb hb2
    go_wp2
    go_ret
    exact ⟨rfl, bel⟩
  obtain ⟨n, p0, au, g⟩ := out_good he
  have HB := Lib.hid g.back
  have ho := g.out
  have h1 := g.n1
  have h25 : n ≤ 25 := Nat.le_trans g.n2 (by unfold most; split <;> omega)
  have hll : (hdM b).ll = [] := by rw [g.hd]; rfl
  have hsl : (hdM b).sl = [] := by rw [g.hd]; rfl
  have HF := Lib.hid (rts_flat (hdM b) b p0 n hll hsl)
  have hlen := rts_len (hdM b) b p0 n
  have HR := Lib.hid (show rightB (Es.at0 (rts (hdM b) b p0 n) 0) = true by rw [rts_at _ _ _ _ _ (by omega)]; exact (g.ent (by omega)).1)
  rw [ho] at P1
  clear he ho g hll hsl
  generalize rts (hdM b) b p0 n = l at *
  have HLen := Lib.hid hlen
  have l1 : 1 ≤ l.length := by omega
  have l2 : l.length ≤ 25 := by omega
  have l3 : (1 : Int) ≤ (l.length : Int) := by omega
  have l4 : (l.length : Int) ≤ 25 := by omega
  have PE := Lib.hid (fun (a : Option Addr) (c : Nat) W (h : MRow W a l) => encode_any a c l W h (fun m hm => ⟨by rw [(HF.out m hm).1]; exact Nat.zero_le _, by rw [(HF.out m hm).2]; exact Nat.zero_le _⟩) (by omega))
  rw [HB.out] at PE
  have hx := bytes_same b
  clear hlen h1 h25
  go_enter Try.func5, Try.ntmps5
  go_wp2_with fail
  refine (P1.out _).mono ?_
  rintro r w1 ⟨a1, k1, rfl, m1, hb⟩
  have M1 := Lib.hid m1
  clear m1 P1
  dsimp only
  go_wp2_with fail
  refine (PE.out a1 k1 _ M1.out).mono ?_
  rintro r w2 ⟨rfl, hb2⟩
  have M2 := Lib.hid (M1.out.below hb2)
  have bel := hb.trans (hb2.mono hb.size)
  clear hb hb2 PE M1
  dsimp only
  go_wp2_with fail
  refine (awake_any _).mono ?_
  rintro r w3 ⟨rfl, hb⟩
  have M3 := Lib.hid (M2.out.below hb)
  have bel := bel.trans (hb.mono bel.size)
  clear hb M2
  obtain ⟨p, rfl, _, hc, hd, hss⟩ := M3.out 0 l1
  have HC := Lib.hid hc
  have ix0 := indexM p l.length k1 0 l1
  have PR := Lib.hid (Rn.rright_any l[0] w3 ⟨hd, hss, by rw [(HF.out _ (List.getElem_mem l1)).1]; exact Nat.zero_le _, by rw [(HF.out _ (List.getElem_mem l1)).2]; exact Nat.zero_le _⟩)
  rw [show rightB l[0] = true by rw [← at0_eq l 0 l1]; exact HR.out] at PR
  clear hc hd hss M3 HF HR
  generalize l[0] = u at *
  go_wp2_with (first | (refine st_yes (v := .pointer (some (p.add (0 * 25)))) (by rfl) rfl (ex_indexM (x := .tmp 64) (y := .const (.int .i64 0)) (i := 0) rfl rfl rfl l1) ?_) | (refine st_yes (v := .agg (M.cells u)) (by rfl) rfl (ex_loadA (m := u) (x := .tmp 65) rfl rfl HC.out) ?_))
  refine PR.out.mono ?_
  rintro r w4 ⟨rfl, hb⟩
  have bel := bel.trans (hb.mono bel.size)
  clear hb PR HC ix0
  go_wp2
  go_ret
  exact ⟨rfl, bel⟩

theorem own : ownKnob Try.prog.godebug = none := by kernel_rfl

set_option maxRecDepth 100000 in
theorem lifted (os : Os) (started : os.Started) (H : Type) (enc : TypeId × Value → H) :
    ReturnsInHanded {} Try.checked os 5 .any (Rows.ripBytesSpec.pre6 enc Try.prog Try.f5 Rows.ripBytesRow.domain false) (Rows.ripBytesSpec.post enc Try.prog Try.f5 false true false false) := by
  refine returnsInHanded_of_change (C := Try.checked) own started (by kernel_rfl) Try.func5
    (ChangeSpec.witness6 (enc := enc) (C := Try.checked) false ⟨#[], #[.string ByteArray.empty], []⟩ 8 (by kernel_rfl) (by kernel_rfl) (by kernel_rfl) (by kernel_rfl)) ?_
  intro W base args ds gs before hval0 hW hcnd _
  have hval : ∀ (j : Nat) t v, Try.f5.params[j]? = some t → args[j]? = some v → Value.okWide Try.prog W .any base t v := hval0
  have hW' := hW
  have hlt := fun x hx => hW'.lt x hx
  obtain ⟨p, q, hA0, hV, rfl, hfz, hnd⟩ := hW
  have hA : DataW.TrodAll enc Try.prog W 0 (fun _ => true) true Try.f5.params.toList args.toList ds p := hA0
  rw [Try.params5] at hA hval
  obtain ⟨v0, vs0, d0, ds0, p0, q0, hargs, rfl, rfl, h0, r0⟩ := trodAll_cons hA
  obtain ⟨rfl, rfl, rfl⟩ := trodAll_nil r0
  obtain rfl : args = #[v0] := by cases args; simp_all
  obtain ⟨rfl, rfl⟩ := trodVars_none hV
  have k0 := h0
  obtain ⟨s, rfl, rfl, rfl, ws⟩ := open_string Try.underlying9 (hval 0 9 v0 rfl rfl) k0
  clear hA0 hval0
  simp only [List.append_nil] at hW' hlt
  refine (walk s W ws).mono fun e W' ⟨he, hg⟩ => ?_
  subst he
  exact ⟨_, rfl, _, _, _, [], _, [], hW', trodAll_mk1 (shut_bool Try.underlying4 _), (trodAll_cons_mk (again (by kernel_rfl) (of_decide_eq_true (by kernel_rfl)) h0 hg fun x hx => hlt x (by first | exact absurd hx (by simp) | simp [hx])) trodAll_mk0), rfl, hg.frame _, fun h => by cases h⟩

theorem over : Rows.ripBytesRow.holds Try.pinned (OpenSpec.ofChange Rows.ripBytesSpec) :=
  OpenClaim.holds_of_wide 5 Try.f5 rfl rfl rfl rfl rfl rfl rfl ⟨rfl, rfl, rfl, rfl, rfl⟩ rfl rfl rfl rfl rfl (by kernel_rfl) Try.func5 (by kernel_rfl)
    (of_decide_eq_true (by kernel_rfl)) (by unfold Func.isWrapper; first | (rw [if_pos (by decide +kernel)]; kernel_rfl) | (rw [if_neg (by decide +kernel)]; exact ⟨rfl, rfl⟩))
    (fun os started H enc _ => lifted os started H enc)

theorem proved : Rows.RipBytesSaid :=
  over
#print axioms proved
end Go.Proofs.Ytfaobpmbiocafaa.ripBytes
