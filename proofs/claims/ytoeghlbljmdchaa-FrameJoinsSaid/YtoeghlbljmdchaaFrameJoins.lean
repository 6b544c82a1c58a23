/-
  The statement FrameJoins, of any two texts. No conditions.
-/
import Derived.Test.YtoeghlbljmdchaaF8
namespace Go.Proofs.Ytoeghlbljmdchaa.frameJoins
open Go.ChangeShapes Go.WideShapes Go.ChangeAt Go.RowKit
open Go.ChangeMaps (open_string shut_string)
open Go.Proofs.Ytoeghlbljmdchaa.F1
open Go.Proofs.Ytoeghlbljmdchaa.F2
open Go.Proofs.Ytoeghlbljmdchaa.F4
open Go.Proofs.Ytoeghlbljmdchaa.F5
open Go.Proofs.Ytoeghlbljmdchaa.F6
open Go.Proofs.Ytoeghlbljmdchaa.F7
open Go.Proofs.Ytoeghlbljmdchaa.Tl
open Go.Proofs.Ytoeghlbljmdchaa.Hs
open Go.Proofs.Ytoeghlbljmdchaa.Open
set_option linter.unusedVariables false

theorem cat_list (a b : ByteArray) : (a ++ b).data.toList = a.data.toList ++ b.data.toList := by simp
theorem cat_size (a b : ByteArray) : (a ++ b).size = a.size + b.size := by simp
theorem int_same (i : Int) : (i == i) = true := by simp

set_option maxHeartbeats 6400000 in
set_option maxRecDepth 100000 in
theorem walk (s t : ByteArray) (w : World) (hm : s.size ≤ maxLen) (hm2 : t.size ≤ maxLen) :
    Calls Try.prog 6 #[.string s, .string t] w fun r w' => r = .returned (.bool true) ∧ Below w.heap.size w w' := by
  unfold maxLen at hm hm2
  by_cases hs : 2000 < s.size
  · clear hm2
    go_enter Try.func6, Try.ntmps6
    go_wp2_with fail
    refine (awake_any _).mono ?_
    rintro r w1 ⟨rfl, hb⟩
    have HB := Lib.hid hb
    clear hb
    go_wp2
    go_ret
    exact ⟨rfl, HB.out⟩
  by_cases ht : 2000 < t.size
  · have hs2 : ¬ (2000 : Int) < (s.size : Int) := by omega
    clear hs
    go_enter Try.func6, Try.ntmps6
    go_wp2_with fail
    refine (awake_any _).mono ?_
    rintro r w1 ⟨rfl, hb⟩
    have HB := Lib.hid hb
    clear hb
    go_wp2
    go_ret
    exact ⟨rfl, HB.out⟩
  have P1 := Lib.hid (fun W => split_own s 4 W (by omega) (by omega) (by omega))
  have P2 := Lib.hid (fun W => split_own t (4 + (s.size : Int)) W (by omega) (by omega) (by omega))
  have P3 := Lib.hid (fun W => split_own (s ++ t) 4 W (by rw [cat_size]; omega) (by omega) (by omega))
  have ct := cat_is s t _ (by omega) (by omega) rfl
  have hq1 : wrap64 (4 + (s.size : Int)) = 4 + (s.size : Int) := IntWalk.wrap64_in _ (by omega)
  have HSz := Lib.hid (show s.size ≤ 2000 by omega)
  have HTz := Lib.hid (show t.size ≤ 2000 by omega)
  have hs3 : ¬ (2000 : Int) < (s.size : Int) := by omega
  have ht3 : ¬ (2000 : Int) < (t.size : Int) := by omega
  clear hm hm2 hs ht
  rcases out_cases 4 s with ⟨a, oa, ea, qa⟩ | ⟨a, ra, oa, ea, ca, na, qa⟩
  rotate_left
  · rw [qa] at P1
    have hpa : (4 : Int) ≤ 4 + ((encT a).length : Int) := by omega
    generalize (4 : Int) + ((encT a).length : Int) = pa at *
    rcases outT (4 + (s.size : Int)) t with ⟨b, x, y⟩
    rcases outT 4 (s ++ t) with ⟨c, x2, y2⟩
    generalize s ++ t = st at *
    clear ea ca na qa oa
    go_enter Try.func6, Try.ntmps6
    go_wp2_with fail
    refine (P1.out _).mono ?_
    rintro r w1 ⟨a1, k1, rfl, m1, hb⟩
    have M1 := Lib.hid m1
    have HB := Lib.hid hb
    clear hb m1 P1
    dsimp only [List.length_nil]
    go_wp2_with fail
    refine (P2.out _).mono ?_
    rintro r w2 ⟨a2, k2, rfl, m1, hb⟩
    have M2 := Lib.hid m1
    have HB := Lib.hid (bcall HB.out hb)
    clear hb m1 P2
    dsimp only [List.length_nil]
    go_wp2_with fail
    refine (P3.out _).mono ?_
    rintro r w3 ⟨a3, k3, rfl, m1, hb⟩
    have M3 := Lib.hid m1
    have HB := Lib.hid (bcall HB.out hb)
    clear hb m1 P3
    dsimp only [List.length_nil]
    go_wp2_with fail
    refine (awake_any _).mono ?_
    rintro r w4 ⟨rfl, hb⟩
    have HB := Lib.hid (bcall HB.out hb)
    clear hb
    go_wp2
    go_ret
    exact ⟨rfl, HB.out⟩
  rw [qa] at P1
  rcases out_cases (4 + (s.size : Int)) t with ⟨b, ob, eb, qb⟩ | ⟨b, rb, ob, eb, cb, nb, qb⟩
  rotate_left
  · have qc : outT 4 (s ++ t) = ([], 4 + ((encT (a ++ b)).length : Int), 2) := out_no (okT_append oa ob) (by rw [cat_list, ea, eb, encT_append, List.append_assoc]) cb nb
    have hz : (4 : Int) + ((encT (a ++ b)).length : Int) = 4 + (s.size : Int) + ((encT b).length : Int) := by
      rw [encT_append, List.length_append, size_of ea]; push_cast; omega
    rw [qc, hz] at P3
    rw [qb] at P2
    clear qc hz qa qb ea eb oa ob cb nb
    generalize (4 : Int) + (s.size : Int) + ((encT b).length : Int) = pb at *
    generalize s ++ t = st at *
    have hq2 := int_same pb
    go_enter Try.func6, Try.ntmps6
    go_wp2_with fail
    refine (P1.out _).mono ?_
    rintro r w1 ⟨a1, k1, rfl, m1, hb⟩
    have M1 := Lib.hid m1
    have HB := Lib.hid hb
    clear hb m1 P1
    dsimp only [List.length_nil]
    go_wp2_with fail
    refine (P2.out _).mono ?_
    rintro r w2 ⟨a2, k2, rfl, m1, hb⟩
    have M2 := Lib.hid m1
    have HB := Lib.hid (bcall HB.out hb)
    clear hb m1 P2
    dsimp only [List.length_nil]
    go_wp2_with fail
    refine (P3.out _).mono ?_
    rintro r w3 ⟨a3, k3, rfl, m1, hb⟩
    have M3 := Lib.hid m1
    have HB := Lib.hid (bcall HB.out hb)
    clear hb m1 P3
    dsimp only [List.length_nil]
    go_wp2_with fail
    refine (awake_any _).mono ?_
    rintro r w4 ⟨rfl, hb⟩
    have HB := Lib.hid (bcall HB.out hb)
    clear hb
    go_wp2
    go_ret
    exact ⟨rfl, HB.out⟩
  have hpl : placed 4 (a ++ b) = placed 4 a ++ placed (4 + (s.size : Int)) b := by rw [placed_append, size_of ea]
  have qc : outT 4 (s ++ t) = (placed 4 a ++ placed (4 + (s.size : Int)) b, 0, 0) := by rw [← hpl]; exact out_yes (okT_append oa ob) (by rw [cat_list, ea, eb, encT_append])
  rw [qc] at P3
  rw [qb] at P2
  have HLa : Hid ((placed 4 a).length + (placed (4 + (s.size : Int)) b).length ≤ 4000) := Lib.hid (by
    rw [placed_len, placed_len]
    have h1 := size_of ea
    have h2 := size_of eb
    have h3 := len_le a
    have h4 := len_le b
    have := HSz.out
    have := HTz.out
    omega)
  clear qc qa qb ea eb oa ob hpl
  generalize placed 4 a = x at *
  generalize placed (4 + (s.size : Int)) b = y at *
  generalize s ++ t = st at *
  go_enter Try.func6, Try.ntmps6
  go_wp2_with fail
  refine (P1.out _).mono ?_
  rintro r w1 ⟨a1, k1, rfl, m1, hb⟩
  have M1 := Lib.hid m1
  have HB := Lib.hid hb
  clear hb m1 P1
  dsimp only [List.length_nil]
  go_wp2_with fail
  refine (P2.out _).mono ?_
  rintro r w2 ⟨a2, k2, rfl, m1, hb⟩
  have M1 := Lib.hid (M1.out.below hb)
  have M2 := Lib.hid m1
  have HB := Lib.hid (bcall HB.out hb)
  clear hb m1 P2
  dsimp only [List.length_nil]
  go_wp2_with fail
  refine (P3.out _).mono ?_
  rintro r w3 ⟨a3, k3, rfl, m1, hb⟩
  have M1 := Lib.hid (M1.out.below hb)
  have M2 := Lib.hid (M2.out.below hb)
  have M3 := Lib.hid m1
  have HB := Lib.hid (bcall HB.out hb)
  clear hb m1 P3
  dsimp only [List.length_nil]
  go_wp2_with fail
  refine (awake_any _).mono ?_
  rintro r w4 ⟨rfl, hb⟩
  have M1 := Lib.hid (M1.out.below hb)
  have M2 := Lib.hid (M2.out.below hb)
  have M3 := Lib.hid (M3.out.below hb)
  have HB := Lib.hid (bcall HB.out hb)
  clear hb
  have M1 := Lib.hid M1.out.row
  have M2 := Lib.hid M2.out.row
  have M3 := Lib.hid M3.out.row
  have HBo := Lib.hid (Below.refl w4.heap.size w4)
  have HL0 := Lib.hid (lst_lit w4 w4.heap.size (Nat.le_refl _))
  have HB1 := Lib.hid (HBo.out.alloc (Nat.le_refl _) (.cells #[] 40))
  go_wp2_with (first | (refine Tl.st_app (by rfl) _ _ rfl w4.heap.size _ [] x a1 k1 rfl HL0.out rfl (M1.out.below HB1.out) (by have := HLa.out; simp; omega) HB1.out.size ?_))
  intro v1 w5 hl hb
  have HL1 := Lib.hid hl
  have HB2 := Lib.hid (HB1.out.trans hb)
  clear hl hb HL0 HB1 HBo
  go_wp2_with (first | (refine Tl.st_app (by rfl) _ _ rfl w4.heap.size _ x y a2 k2 rfl HL1.out rfl (M2.out.below HB2.out) (by have := HLa.out; omega) HB2.out.size ?_))
  intro v2 w6 hl hb
  have HB3 := Lib.hid (HB2.out.trans hb)
  obtain ⟨a5, c5, rfl⟩ := hl.slice
  have M5 := Lib.hid hl.row
  have M3 := Lib.hid (M3.out.below HB3.out)
  have HB := Lib.hid (HB.out.trans (HB3.out.mono HB.out.size))
  clear hl hb HL1 HB2 HB3 M1 M2
  have PS := Lib.hid (same_any a3 a5 k3 c5 (x ++ y) (x ++ y) w6 M3.out M5.out (by have := HLa.out; simp; omega) (by have := HLa.out; simp; omega))
  rw [decide_eq_true rfl] at PS
  simp only [List.length_append] at PS
  go_wp2_with fail
  refine (PS.out).mono ?_
  rintro r w7 ⟨rfl, hb⟩
  have HB := Lib.hid (bcall HB.out hb)
  clear hb  PS M3 M5
  go_wp2
  go_ret
  exact ⟨rfl, HB.out⟩

theorem own : ownKnob Try.prog.godebug = none := by kernel_rfl

set_option maxRecDepth 100000 in
theorem lifted (os : Os) (started : os.Started) (H : Type) (enc : TypeId × Value → H) :
    ReturnsInHanded {} Try.checked os 6 .any (Rows.frameJoinsSpec.pre6 enc Try.prog Try.f6 Rows.frameJoinsRow.domain false) (Rows.frameJoinsSpec.post enc Try.prog Try.f6 false true false false) := by
  refine returnsInHanded_of_change (C := Try.checked) own started (by kernel_rfl) Try.func6
    (ChangeSpec.witness6 (enc := enc) (C := Try.checked) false ⟨#[], #[.string ByteArray.empty, .string ByteArray.empty], []⟩ 8 (by kernel_rfl) (by kernel_rfl) (by kernel_rfl) (by kernel_rfl)) ?_
  intro W base args ds gs before hval0 hW hcnd _
  have hval : ∀ (j : Nat) t v, Try.f6.params[j]? = some t → args[j]? = some v → Value.okWide Try.prog W .any base t v := hval0
  have hW' := hW
  have hlt := fun x hx => hW'.lt x hx
  obtain ⟨p, q, hA0, hV, rfl, hfz, hnd⟩ := hW
  have hA : DataW.TrodAll enc Try.prog W 0 (fun _ => true) true Try.f6.params.toList args.toList ds p := hA0
  rw [Try.params6] at hA hval
  obtain ⟨v0, vs0, d0, ds0, p0, q0, hargs, rfl, rfl, h0, r0⟩ := trodAll_cons hA
  obtain ⟨v1, vs1, d1, ds1, p1, q1, rfl, rfl, rfl, h1, r1⟩ := trodAll_cons r0
  obtain ⟨rfl, rfl, rfl⟩ := trodAll_nil r1
  obtain rfl : args = #[v0, v1] := by cases args; simp_all
  obtain ⟨rfl, rfl⟩ := trodVars_none hV
  have k0 := h0
  obtain ⟨s, rfl, rfl, rfl, ws⟩ := open_string Try.underlying9 (hval 0 9 v0 rfl rfl) k0
  have k1 := h1
  obtain ⟨t, rfl, rfl, rfl, wt⟩ := open_string Try.underlying9 (hval 1 9 v1 rfl rfl) k1
  clear hA0 hval0
  simp only [List.append_nil] at hW' hlt
  refine (walk s t W ws wt).mono fun e W' ⟨he, hg⟩ => ?_
  subst he
  exact ⟨_, rfl, _, _, _, [], _, [], hW', trodAll_mk1 (shut_bool Try.underlying4 _), (trodAll_cons_mk (again (by kernel_rfl) (of_decide_eq_true (by kernel_rfl)) h0 hg fun x hx => hlt x (by first | exact absurd hx (by simp) | simp [hx])) (trodAll_cons_mk (again (by kernel_rfl) (of_decide_eq_true (by kernel_rfl)) h1 hg fun x hx => hlt x (by first | exact absurd hx (by simp) | simp [hx])) trodAll_mk0)), rfl, hg.frame _, fun h => by cases h⟩

theorem over : Rows.frameJoinsRow.holds Try.pinned (OpenSpec.ofChange Rows.frameJoinsSpec) :=
  OpenClaim.holds_of_wide 6 Try.f6 rfl rfl rfl rfl rfl rfl rfl ⟨rfl, rfl, rfl, rfl, rfl⟩ rfl rfl rfl rfl rfl (by kernel_rfl) Try.func6 (by kernel_rfl)
    (of_decide_eq_true (by kernel_rfl)) (by unfold Func.isWrapper; first | (rw [if_pos (by decide +kernel)]; kernel_rfl) | (rw [if_neg (by decide +kernel)]; exact ⟨rfl, rfl⟩))
    (fun os started H enc _ => lifted os started H enc)

theorem proved : Rows.FrameJoinsSaid :=
  over
#print axioms proved
end Go.Proofs.Ytoeghlbljmdchaa.frameJoins
