/-
  The statement ExtJoins, of any two texts. No conditions.
-/
import Derived.Test.YtcpngemhnnijbaaXj
namespace Go.Proofs.Ytcpngemhnnijbaa.extJoins
open Go.ChangeShapes Go.WideShapes Go.ChangeAt Go.RowKit
open Go.ChangeMaps (open_string shut_string)
open Go.Proofs.Ytcpngemhnnijbaa.Ms
open Go.Proofs.Ytcpngemhnnijbaa.Xv
open Go.Proofs.Ytcpngemhnnijbaa.Xc
open Go.Proofs.Ytcpngemhnnijbaa.Xa
open Go.Proofs.Ytcpngemhnnijbaa.Xj
open Go.Proofs.Ytcpngemhnnijbaa.Open
set_option linter.unusedVariables false

theorem cat_list (a b : ByteArray) : (a ++ b).data.toList = a.data.toList ++ b.data.toList := by simp
theorem cat_size (a b : ByteArray) : (a ++ b).size = a.size + b.size := by simp
theorem cat_run (a b : ByteArray) (h : a.size ≤ 1000) (k : b.size ≤ 1000) (W : World) : (Op.stringOp .add a b).run Try.prog W = .ok (.string (a ++ b)) W := run_string_add_sum W a b (by omega)
theorem wrap_one (x y : Int) (h : 0 ≤ x ∧ x ≤ 1000) (k : 0 ≤ y ∧ y ≤ 1000) : wrap64 (x + y) = x + y := IntWalk.wrap64_in _ (by omega)

set_option maxHeartbeats 6400000 in
set_option maxRecDepth 100000 in
theorem walk (s t : ByteArray) (w : World) (hm : s.size ≤ maxLen) (hm2 : t.size ≤ maxLen) :
    Calls Try.prog 6 #[.string s, .string t] w fun r w' => r = .returned (.bool true) ∧ Below w.heap.size w w' := by
  unfold maxLen at hm hm2
  by_cases hs : 1000 < s.size
  · clear hm2
    go_enter Try.func6, Try.ntmps6
    go_wp2_with fail
    refine (awake_any _).mono ?_
    rintro r w1 ⟨rfl, hb⟩
    have HB := Lib.hid hb
    clear hb
    go_wp2
    go_ret
    exact ⟨rfl, HB.out⟩
  by_cases ht : 1000 < t.size
  · have hs2 : ¬ (1000 : Int) < (s.size : Int) := by omega
    clear hs
    go_enter Try.func6, Try.ntmps6
    go_wp2_with fail
    refine (awake_any _).mono ?_
    rintro r w1 ⟨rfl, hb⟩
    have HB := Lib.hid hb
    clear hb
    go_wp2
    go_ret
    exact ⟨rfl, HB.out⟩
  have hs2 : (s.size : Int) ≤ 1000 := by omega
  have ht2 : (t.size : Int) ≤ 1000 := by omega
  have P1 := Lib.hid (fun W => get_any s W (by omega))
  have P2 := Lib.hid (fun W => get_any t W (by omega))
  have P3 := Lib.hid (fun W => get_any (s ++ t) W (by rw [cat_size]; omega))
  have ct := cat_run s t (by omega) (by omega)
  have HSz := Lib.hid (show s.size ≤ 1000 by omega)
  have HTz := Lib.hid (show t.size ≤ 1000 by omega)
  have hs3 : ¬ (1000 : Int) < (s.size : Int) := by omega
  have ht3 : ¬ (1000 : Int) < (t.size : Int) := by omega
  clear hm hm2 hs ht
  rcases out_cases s with ⟨a, oa, ea, qa⟩ | ⟨a, ra, oa, ea, ca, na, qa⟩
  rotate_left
  · rw [qa] at P1
    generalize (encX a).length = pa at *
    rcases outX t with ⟨b, x, y⟩
    rcases outX (s ++ t) with ⟨c, x2, y2⟩
    generalize s ++ t = st at *
    clear ea ca na qa oa
    go_enter Try.func6, Try.ntmps6
    go_wp2_with fail
    refine (P1.out _).mono ?_
    rintro r w1 ⟨a1, k1, rfl, m1, hb⟩
    have M1 := Lib.hid m1
    have HB := Lib.hid hb
    clear hb m1 P1
    dsimp only [List.length_nil]
    go_wp2_with fail
    refine (P2.out _).mono ?_
    rintro r w2 ⟨a2, k2, rfl, m1, hb⟩
    have M2 := Lib.hid m1
    have HB := Lib.hid (HB.out.trans (hb.mono HB.out.size))
    clear hb m1 P2
    dsimp only [List.length_nil]
    go_wp2_with fail
    refine (P3.out _).mono ?_
    rintro r w3 ⟨a3, k3, rfl, m1, hb⟩
    have M3 := Lib.hid m1
    have HB := Lib.hid (HB.out.trans (hb.mono HB.out.size))
    clear hb m1 P3
    dsimp only [List.length_nil]
    go_wp2_with fail
    refine (awake_any _).mono ?_
    rintro r w4 ⟨rfl, hb⟩
    have HB := Lib.hid (HB.out.trans (hb.mono HB.out.size))
    clear hb
    go_wp2
    go_ret
    exact ⟨rfl, HB.out⟩
  rw [qa] at P1
  rcases out_cases t with ⟨b, ob, eb, qb⟩ | ⟨b, rb, ob, eb, cb, nb, qb⟩
  rotate_left
  · have qc : outX (s ++ t) = ([], ((encX (a ++ b)).length : Int), 2) := out_no ((okX_append a b).2 ⟨oa, ob⟩) (by rw [cat_list, ea, eb, encX_append, List.append_assoc]) cb nb
    have hz : ((encX (a ++ b)).length : Int) = (s.size : Int) + ((encX b).length : Int) := by
      rw [encX_append, List.length_append, size_of ea]; push_cast; rfl
    rw [qc, hz] at P3
    rw [qb] at P2
    have hbz : ((encX b).length : Int) ≤ 1000 := by
      have := size_of eb
      rw [List.length_append] at this
      omega
    clear qc hz qa qb ea eb oa ob cb nb
    generalize (encX b).length = pb at *
    generalize s ++ t = st at *
    have hq := wrap_one (s.size : Int) (pb : Int) (by omega) (by omega)
    have hq2 : (((s.size : Int) + (pb : Int)) == ((s.size : Int) + (pb : Int))) = true := by simp
    go_enter Try.func6, Try.ntmps6
    go_wp2_with fail
    refine (P1.out _).mono ?_
    rintro r w1 ⟨a1, k1, rfl, m1, hb⟩
    have M1 := Lib.hid m1
    have HB := Lib.hid hb
    clear hb m1 P1
    dsimp only [List.length_nil]
    go_wp2_with fail
    refine (P2.out _).mono ?_
    rintro r w2 ⟨a2, k2, rfl, m1, hb⟩
    have M2 := Lib.hid m1
    have HB := Lib.hid (HB.out.trans (hb.mono HB.out.size))
    clear hb m1 P2
    dsimp only [List.length_nil]
    go_wp2_with fail
    refine (P3.out _).mono ?_
    rintro r w3 ⟨a3, k3, rfl, m1, hb⟩
    have M3 := Lib.hid m1
    have HB := Lib.hid (HB.out.trans (hb.mono HB.out.size))
    clear hb m1 P3
    dsimp only [List.length_nil]
    go_wp2_with fail
    refine (awake_any _).mono ?_
    rintro r w4 ⟨rfl, hb⟩
    have HB := Lib.hid (HB.out.trans (hb.mono HB.out.size))
    clear hb
    go_wp2
    go_ret
    exact ⟨rfl, HB.out⟩
  have qc : outX (s ++ t) = (a ++ b, 0, 0) := out_yes ((okX_append a b).2 ⟨oa, ob⟩) (by rw [cat_list, ea, eb, encX_append])
  rw [qc] at P3
  rw [qb] at P2
  have HLa : Hid (a.length + b.length ≤ 2000) := Lib.hid (by
    have h1 := size_of ea
    have h2 := size_of eb
    have h3 := len_le a
    have h4 := len_le b
    omega)
  clear qc qa qb ea eb oa ob
  generalize s ++ t = st at *
  go_enter Try.func6, Try.ntmps6
  go_wp2_with fail
  refine (P1.out _).mono ?_
  rintro r w1 ⟨a1, k1, rfl, m1, hb⟩
  have M1 := Lib.hid m1
  have HB := Lib.hid hb
  clear hb m1 P1
  dsimp only [List.length_nil]
  go_wp2_with fail
  refine (P2.out _).mono ?_
  rintro r w2 ⟨a2, k2, rfl, m1, hb⟩
  have M1 := Lib.hid (M1.out.below hb)
  have M2 := Lib.hid m1
  have HB := Lib.hid (HB.out.trans (hb.mono HB.out.size))
  clear hb m1 P2
  dsimp only [List.length_nil]
  go_wp2_with fail
  refine (P3.out _).mono ?_
  rintro r w3 ⟨a3, k3, rfl, m1, hb⟩
  have M1 := Lib.hid (M1.out.below hb)
  have M2 := Lib.hid (M2.out.below hb)
  have M3 := Lib.hid m1
  have HB := Lib.hid (HB.out.trans (hb.mono HB.out.size))
  clear hb m1 P3
  dsimp only [List.length_nil]
  go_wp2_with fail
  refine (awake_any _).mono ?_
  rintro r w4 ⟨rfl, hb⟩
  have M1 := Lib.hid (M1.out.below hb)
  have M2 := Lib.hid (M2.out.below hb)
  have M3 := Lib.hid (M3.out.below hb)
  have HB := Lib.hid (HB.out.trans (hb.mono HB.out.size))
  clear hb
  have HBo := Lib.hid (Below.refl w4.heap.size w4)
  have HL0 := Lib.hid (lst_lit w4 w4.heap.size (Nat.le_refl _))
  have HB1 := Lib.hid (HBo.out.alloc (Nat.le_refl _) (.cells #[] 38))
  go_wp2_with (first | (refine Xj.st_app (by rfl) _ _ rfl w4.heap.size _ [] a a1 k1 rfl HL0.out rfl (M1.out.below HB1.out) (by have := HLa.out; simp; omega) HB1.out.size ?_))
  intro v1 w5 hl hb
  have HL1 := Lib.hid hl
  have HB2 := Lib.hid (HB1.out.trans hb)
  clear hl hb HL0 HB1 HBo
  go_wp2_with (first | (refine Xj.st_app (by rfl) _ _ rfl w4.heap.size _ a b a2 k2 rfl HL1.out rfl (M2.out.below HB2.out) (by have := HLa.out; omega) HB2.out.size ?_))
  intro v2 w6 hl hb
  have HB3 := Lib.hid (HB2.out.trans hb)
  obtain ⟨a5, c5, rfl⟩ := hl.slice
  have M5 := Lib.hid hl.row
  have M3 := Lib.hid (M3.out.below HB3.out)
  have HB := Lib.hid (HB.out.trans (HB3.out.mono HB.out.size))
  clear hl hb HL1 HB2 HB3 M1 M2
  have PS := Lib.hid (RSame.rsame_any (mS a3 (a ++ b) k3) (mS a5 (a ++ b) c5) w6 (in_mS M3.out (by have := HLa.out; simp; omega)) (in_mS M5.out (by have := HLa.out; simp; omega)))
  rw [same_mS, decide_eq_true rfl] at PS
  simp only [mS, M.cells, M.subs, M.list, M.zero, List.length_append] at PS
  go_wp2_with fail
  refine PS.out.mono ?_
  rintro r w7 ⟨rfl, hb⟩
  have HB := Lib.hid (HB.out.trans (hb.mono HB.out.size))
  clear hb PS M3 M5
  go_wp2
  go_ret
  exact ⟨rfl, HB.out⟩

theorem own : ownKnob Try.prog.godebug = none := by kernel_rfl

set_option maxRecDepth 100000 in
theorem lifted (os : Os) (started : os.Started) (H : Type) (enc : TypeId × Value → H) :
    ReturnsInHanded {} Try.checked os 6 .any (Rows.extJoinsSpec.pre6 enc Try.prog Try.f6 Rows.extJoinsRow.domain false) (Rows.extJoinsSpec.post enc Try.prog Try.f6 false true false false) := by
  refine returnsInHanded_of_change (C := Try.checked) own started (by kernel_rfl) Try.func6
    (ChangeSpec.witness6 (enc := enc) (C := Try.checked) false ⟨#[], #[.string ByteArray.empty, .string ByteArray.empty], []⟩ 8 (by kernel_rfl) (by kernel_rfl) (by kernel_rfl) (by kernel_rfl)) ?_
  intro W base args ds gs before hval0 hW hcnd _
  have hval : ∀ (j : Nat) t v, Try.f6.params[j]? = some t → args[j]? = some v → Value.okWide Try.prog W .any base t v := hval0
  have hW' := hW
  have hlt := fun x hx => hW'.lt x hx
  obtain ⟨p, q, hA0, hV, rfl, hfz, hnd⟩ := hW
  have hA : DataW.TrodAll enc Try.prog W 0 (fun _ => true) true Try.f6.params.toList args.toList ds p := hA0
  rw [Try.params6] at hA hval
  obtain ⟨v0, vs0, d0, ds0, p0, q0, hargs, rfl, rfl, h0, r0⟩ := trodAll_cons hA
  obtain ⟨v1, vs1, d1, ds1, p1, q1, rfl, rfl, rfl, h1, r1⟩ := trodAll_cons r0
  obtain ⟨rfl, rfl, rfl⟩ := trodAll_nil r1
  obtain rfl : args = #[v0, v1] := by cases args; simp_all
  obtain ⟨rfl, rfl⟩ := trodVars_none hV
  have k0 := h0
  obtain ⟨s, rfl, rfl, rfl, ws⟩ := open_string Try.underlying9 (hval 0 9 v0 rfl rfl) k0
  have k1 := h1
  obtain ⟨t, rfl, rfl, rfl, wt⟩ := open_string Try.underlying9 (hval 1 9 v1 rfl rfl) k1
  clear hA0 hval0
  simp only [List.append_nil] at hW' hlt
  refine (walk s t W ws wt).mono fun e W' ⟨he, hg⟩ => ?_
  subst he
  exact ⟨_, rfl, _, _, _, [], _, [], hW', trodAll_mk1 (shut_bool Try.underlying4 _), (trodAll_cons_mk (again (by kernel_rfl) (of_decide_eq_true (by kernel_rfl)) h0 hg fun x hx => hlt x (by first | exact absurd hx (by simp) | simp [hx])) (trodAll_cons_mk (again (by kernel_rfl) (of_decide_eq_true (by kernel_rfl)) h1 hg fun x hx => hlt x (by first | exact absurd hx (by simp) | simp [hx])) trodAll_mk0)), rfl, hg.frame _, fun h => by cases h⟩

theorem over : Rows.extJoinsRow.holds Try.pinned (OpenSpec.ofChange Rows.extJoinsSpec) :=
  OpenClaim.holds_of_wide 6 Try.f6 rfl rfl rfl rfl rfl rfl rfl ⟨rfl, rfl, rfl, rfl, rfl⟩ rfl rfl rfl rfl rfl (by kernel_rfl) Try.func6 (by kernel_rfl)
    (of_decide_eq_true (by kernel_rfl)) (by unfold Func.isWrapper; first | (rw [if_pos (by decide +kernel)]; kernel_rfl) | (rw [if_neg (by decide +kernel)]; exact ⟨rfl, rfl⟩))
    (fun os started H enc _ => lifted os started H enc)

theorem proved : Rows.ExtJoinsSaid :=
  over
#print axioms proved
end Go.Proofs.Ytcpngemhnnijbaa.extJoins
