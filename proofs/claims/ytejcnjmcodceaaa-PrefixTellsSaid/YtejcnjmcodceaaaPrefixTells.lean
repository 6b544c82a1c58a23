/-
  PrefixTells, of any two addresses, every length and every size: whether it is a prefix, how many bytes have its bits, how it is cut and filled, and how many bytes are alike are the document's. No condition.
-/
import Derived.Test.YtejcnjmcodceaaaLead
import Derived.Lib.SmallJoins
import Derived.WalkKit
import Derived.ProofKit
import Derived.OpenShut
import Derived.ShutString
namespace Go.Proofs.Ytejcnjmcodceaaa.prefixTells
open Go.ChangeShapes Go.WideShapes Go.ChangeAt Go.RowKit Go.Joins
open Go.ChangeMaps (open_string shut_string)
open Go.Proofs.Ytejcnjmcodceaaa.Bits
open Go.Proofs.Ytejcnjmcodceaaa.Pre
set_option linter.unusedVariables false

theorem own : ownKnob Try.prog.godebug = none := by kernel_rfl

theorem balloc {w W : World} (h : Below w.heap.size w W) (o : Obj) : Below w.heap.size w (W.alloc o) := h.alloc h.size o

theorem box_cells (w : World) (a b : ByteArray) (n m : Int) : ((w.alloc (.cells #[.string a, .string b, .int .i64 n, .int .i64 m] 23)).cell? ⟨w.heap.size, 0, none⟩ = some (.string a) ∧ (w.alloc (.cells #[.string a, .string b, .int .i64 n, .int .i64 m] 23)).cell? ⟨w.heap.size, 1, none⟩ = some (.string b) ∧ (w.alloc (.cells #[.string a, .string b, .int .i64 n, .int .i64 m] 23)).cell? ⟨w.heap.size, 2, none⟩ = some (.int .i64 n) ∧ (w.alloc (.cells #[.string a, .string b, .int .i64 n, .int .i64 m] 23)).cell? ⟨w.heap.size, 3, none⟩ = some (.int .i64 m)) := by
  refine ⟨?_, ?_, ?_, ?_⟩ <;> simp [go_sem]

set_option maxHeartbeats 1600000 in
theorem walk_far0 (a b : ByteArray) (n m : Int) (w : World) (wa : a.size ≤ maxLen) (wb : b.size ≤ maxLen)
    (h : 100 < a.size) :
    Calls Try.prog 3 #[.agg #[.string a, .string b, .int .i64 n, .int .i64 m]] w fun e w' => e = .returned (.bool true) ∧ Below w.heap.size w w' := by
  unfold maxLen at wa wb
  obtain ⟨c0, c1, c2, c3⟩ := box_cells w a b n m
  have bel := balloc (Below.refl _ w) (.cells #[.string a, .string b, .int .i64 n, .int .i64 m] 23)
  go_enter Try.func3, Try.ntmps3
  go_wp2
  generalize w.alloc (.cells #[.string a, .string b, .int .i64 n, .int .i64 m] 23) = W at *
  go_region
  all_goals
    have bel2 := bel.drew
    clear c0 c1 c2 c3 bel
    generalize W.drew = V at *
    go_wp2_with fail
    refine (awake_any _).mono ?_
    rintro e w2 ⟨rfl, hb1⟩
    replace hb1 := bcall bel2 hb1
    clear bel2
    go_wp2
    go_ret
    exact ⟨rfl, hb1⟩

set_option maxHeartbeats 1600000 in
theorem walk_far1 (a b : ByteArray) (n m : Int) (w : World) (wa : a.size ≤ maxLen) (wb : b.size ≤ maxLen)
    (h : 100 < b.size) (g0 : ¬ 100 < a.size) :
    Calls Try.prog 3 #[.agg #[.string a, .string b, .int .i64 n, .int .i64 m]] w fun e w' => e = .returned (.bool true) ∧ Below w.heap.size w w' := by
  unfold maxLen at wa wb
  obtain ⟨c0, c1, c2, c3⟩ := box_cells w a b n m
  have bel := balloc (Below.refl _ w) (.cells #[.string a, .string b, .int .i64 n, .int .i64 m] 23)
  go_enter Try.func3, Try.ntmps3
  go_wp2
  generalize w.alloc (.cells #[.string a, .string b, .int .i64 n, .int .i64 m] 23) = W at *
  go_region
  all_goals
    have bel2 := bel.drew
    clear c0 c1 c2 c3 bel
    generalize W.drew = V at *
    go_wp2_with fail
    refine (awake_any _).mono ?_
    rintro e w2 ⟨rfl, hb1⟩
    replace hb1 := bcall bel2 hb1
    clear bel2
    go_wp2
    go_ret
    exact ⟨rfl, hb1⟩

set_option maxHeartbeats 1600000 in
theorem walk_far2 (a b : ByteArray) (n m : Int) (w : World) (wa : a.size ≤ maxLen) (wb : b.size ≤ maxLen)
    (h : 1099511627776 < n) (g0 : ¬ 100 < a.size) (g1 : ¬ 100 < b.size) :
    Calls Try.prog 3 #[.agg #[.string a, .string b, .int .i64 n, .int .i64 m]] w fun e w' => e = .returned (.bool true) ∧ Below w.heap.size w w' := by
  unfold maxLen at wa wb
  obtain ⟨c0, c1, c2, c3⟩ := box_cells w a b n m
  have bel := balloc (Below.refl _ w) (.cells #[.string a, .string b, .int .i64 n, .int .i64 m] 23)
  go_enter Try.func3, Try.ntmps3
  go_wp2
  generalize w.alloc (.cells #[.string a, .string b, .int .i64 n, .int .i64 m] 23) = W at *
  go_region
  all_goals
    have bel2 := bel.drew
    clear c0 c1 c2 c3 bel
    generalize W.drew = V at *
    go_wp2_with fail
    refine (awake_any _).mono ?_
    rintro e w2 ⟨rfl, hb1⟩
    replace hb1 := bcall bel2 hb1
    clear bel2
    go_wp2
    go_ret
    exact ⟨rfl, hb1⟩

set_option maxHeartbeats 1600000 in
theorem walk_far3 (a b : ByteArray) (n m : Int) (w : World) (wa : a.size ≤ maxLen) (wb : b.size ≤ maxLen)
    (h : 1000 < m) (g0 : ¬ 100 < a.size) (g1 : ¬ 100 < b.size) (g2 : ¬ 1099511627776 < n) :
    Calls Try.prog 3 #[.agg #[.string a, .string b, .int .i64 n, .int .i64 m]] w fun e w' => e = .returned (.bool true) ∧ Below w.heap.size w w' := by
  unfold maxLen at wa wb
  obtain ⟨c0, c1, c2, c3⟩ := box_cells w a b n m
  have bel := balloc (Below.refl _ w) (.cells #[.string a, .string b, .int .i64 n, .int .i64 m] 23)
  go_enter Try.func3, Try.ntmps3
  go_wp2
  generalize w.alloc (.cells #[.string a, .string b, .int .i64 n, .int .i64 m] 23) = W at *
  go_region
  all_goals
    have bel2 := bel.drew
    clear c0 c1 c2 c3 bel
    generalize W.drew = V at *
    go_wp2_with fail
    refine (awake_any _).mono ?_
    rintro e w2 ⟨rfl, hb1⟩
    replace hb1 := bcall bel2 hb1
    clear bel2
    go_wp2
    go_ret
    exact ⟨rfl, hb1⟩

set_option maxHeartbeats 1600000 in
theorem walk_near (a b : ByteArray) (n m : Int) (w : World) (ha : a.size ≤ 100) (hb : b.size ≤ 100) (hn : -9223372036854775808 ≤ n ∧ n ≤ 1099511627776) (hm : m ≤ 1000) :
    Calls Try.prog 3 #[.agg #[.string a, .string b, .int .i64 n, .int .i64 m]] w fun e w' => e = .returned (.bool true) ∧ Below w.heap.size w w' := by
  have P7 := Lib.hid (fun w => right_any a n w (by unfold maxLen; omega))
  have P8 := Lib.hid (fun w => rright_any a n w (by unfold maxLen; omega))
  have P9 := Lib.hid (fun w => least_any n w (by omega))
  have P10 := Lib.hid (fun w => rleast_any n w hn)
  have P11 := Lib.hid (fun w => cut_any a n w (by omega) (by omega))
  have P12 := Lib.hid (fun w => rcut_any a n w (by omega) hn)
  have P13 := Lib.hid (fun w => fill_any a m w (by omega) (by omega))
  have P14 := Lib.hid (fun w => rfill_any a m w (by omega) (by omega))
  have P15 := Lib.hid (fun w => lead_any a b w (by omega) (by omega))
  have P16 := Lib.hid (fun w => rlead_any a b w (by omega) (by omega))
  generalize rightZ a n = rv at *
  generalize leastN n = lv at *
  generalize ByteArray.mk (cutL a.data.toList n).toArray = cv at *
  generalize ByteArray.mk (fillL a.data.toList m.toNat).toArray = fv at *
  generalize leadN a b = nv at *
  obtain ⟨c0, c1, c2, c3⟩ := box_cells w a b n m
  have bel := balloc (Below.refl _ w) (.cells #[.string a, .string b, .int .i64 n, .int .i64 m] 23)
  go_enter Try.func3, Try.ntmps3
  go_wp2
  generalize w.alloc (.cells #[.string a, .string b, .int .i64 n, .int .i64 m] 23) = W at *
  go_region
  all_goals
    have bel2 := bel.drew
    clear c0 c1 c2 c3 bel
    generalize W.drew = V at *
    go_wp2_with fail
    refine (awake_any _).mono ?_
    rintro e w2 ⟨rfl, hb1⟩
    replace hb1 := bcall bel2 hb1
    clear bel2
    go_wp2_with fail
    refine (P7.out _).mono ?_
    rintro e w3 ⟨rfl, hb2⟩
    replace hb2 := bcall hb1 hb2
    clear hb1
    go_wp2_with fail
    refine (P8.out _).mono ?_
    rintro e w4 ⟨rfl, hb3⟩
    replace hb3 := bcall hb2 hb3
    clear hb2
    go_wp2_with fail
    refine (P9.out _).mono ?_
    rintro e w5 ⟨rfl, rfl⟩
    go_wp2_with fail
    refine (P10.out _).mono ?_
    rintro e w5 ⟨rfl, rfl⟩
    go_wp2_with fail
    refine (P11.out _).mono ?_
    rintro e w5 ⟨rfl, hb4⟩
    replace hb4 := bcall hb3 hb4
    clear hb3
    go_wp2_with fail
    refine (P12.out _).mono ?_
    rintro e w6 ⟨rfl, hb5⟩
    replace hb5 := bcall hb4 hb5
    clear hb4
    go_wp2_with fail
    refine (P13.out _).mono ?_
    rintro e w7 ⟨rfl, hb6⟩
    replace hb6 := bcall hb5 hb6
    clear hb5
    go_wp2_with fail
    refine (P14.out _).mono ?_
    rintro e w8 ⟨rfl, rfl⟩
    go_wp2_with fail
    refine (P15.out _).mono ?_
    rintro e w8 ⟨rfl, hb7⟩
    replace hb7 := bcall hb6 hb7
    clear hb6
    go_wp2_with fail
    refine (P16.out _).mono ?_
    rintro e w9 ⟨rfl, hb8⟩
    replace hb8 := bcall hb7 hb8
    clear hb7
    go_wp2
    go_ret
    exact ⟨rfl, hb8⟩

theorem walk (a b : ByteArray) (n m : Int) (w : World) (wa : a.size ≤ maxLen) (wb : b.size ≤ maxLen) (wn : (Lit.int .i64 n).wf = true) :
    Calls Try.prog 3 #[.agg #[.string a, .string b, .int .i64 n, .int .i64 m]] w fun e w' => e = .returned (.bool true) ∧ Below w.heap.size w w' := by
  have hw := wn
  simp only [Lit.wf, Bool.and_eq_true, decide_eq_true_eq] at hw
  have hmin : IntKind.i64.min = -9223372036854775808 := rfl
  by_cases g0 : 100 < a.size
  · exact walk_far0 a b n m w wa wb g0
  · by_cases g1 : 100 < b.size
    · exact walk_far1 a b n m w wa wb g1 g0
    · by_cases g2 : 1099511627776 < n
      · exact walk_far2 a b n m w wa wb g2 g0 g1
      · by_cases g3 : 1000 < m
        · exact walk_far3 a b n m w wa wb g3 g0 g1 g2
        · exact walk_near a b n m w (by omega) (by omega) (by omega) (by omega)

theorem cells23 : Try.prog.cellsOf 23 = 4 := by kernel_rfl

set_option maxRecDepth 100000 in
theorem lifted (os : Os) (started : os.Started) (H : Type) (enc : TypeId × Value → H) :
    ReturnsInHanded {} Try.checked os 3 .any (Rows.prefixTellsSpec.pre6 enc Try.prog Try.f3 Rows.prefixTellsRow.domain false) (Rows.prefixTellsSpec.post enc Try.prog Try.f3 false true false false) := by
  refine returnsInHanded_of_change (C := Try.checked) own started (by kernel_rfl) Try.func3
    (ChangeSpec.witness6 (enc := enc) (C := Try.checked) false ⟨#[], #[.agg #[.string ByteArray.empty, .string ByteArray.empty, .int .i64 0, .int .i64 0]], []⟩ 8 (by kernel_rfl) (by kernel_rfl) (by kernel_rfl) (by kernel_rfl)) ?_
  intro W base args ds gs before hval0 hW hcnd _
  have hval : ∀ (j : Nat) t v, Try.f3.params[j]? = some t → args[j]? = some v → Value.okWide Try.prog W .any base t v := hval0
  have hW' := hW
  obtain ⟨p, q, hA0, hV, rfl, hfz, hnd⟩ := hW
  have hA : DataW.TrodAll enc Try.prog W 0 (fun _ => true) true Try.f3.params.toList args.toList ds p := hA0
  rw [Try.params3] at hA hval
  obtain ⟨v0, vs0, d0, ds0, p0, q0, hargs, rfl, rfl, h0, r0⟩ := trodAll_cons hA
  obtain ⟨rfl, rfl, rfl⟩ := trodAll_nil r0
  obtain rfl : args = #[v0] := by cases args; simp_all
  obtain ⟨rfl, rfl⟩ := trodVars_none hV
  obtain ⟨c0, c1, c2, c3, y0, y1, y2, y3, m, rfl, rfl, rfl, hy0, hy1, hy2, hy3⟩ := open_agg4 Try.underlying23 (by kernel_rfl) cells23 (hval 0 23 v0 rfl rfl) h0
  obtain ⟨a, e0, rfl, wa⟩ := DataW.trod_string Try.underlying9 hy0
  obtain ⟨b, e1, rfl, wb⟩ := DataW.trod_string Try.underlying9 hy1
  obtain ⟨n, e2, rfl, wn⟩ := DataW.trod_int Try.underlying3 hy2
  obtain ⟨m', e3, rfl, wm⟩ := DataW.trod_int Try.underlying3 hy3
  simp at e0 e1 e2 e3
  subst e0 e1 e2 e3
  clear hA0 hval0
  simp only [List.append_nil] at hW'
  have structReads : ∀ (W' : World) (sp : Nat → Bool), DataW.Trod enc Try.prog W' 0 sp true 23 (.agg #[.string a, .string b, .int .i64 n, .int .i64 m']) (.agg [.lit (.string a.data.toList), .lit (.string b.data.toList), .lit (.int .i64 n), .lit (.int .i64 m')]) [] := fun W' sp =>
    shut_agg4 (y0 := (.lit (.string a.data.toList), [])) (y1 := (.lit (.string b.data.toList), [])) (y2 := (.lit (.int .i64 n), [])) (y3 := (.lit (.int .i64 m'), [])) Try.underlying23 (by kernel_rfl) cells23 ⟨1, by simp [DataW.trod, Try.underlying9, wa]⟩ ⟨1, by simp [DataW.trod, Try.underlying9, wb]⟩ ⟨1, by simp [DataW.trod, Try.underlying3, wn]⟩ ⟨1, by simp [DataW.trod, Try.underlying3, wm]⟩
  refine (walk a b n m' W wa wb wn).mono fun e W' ⟨he, hg⟩ => ?_
  subst he
  exact ⟨_, rfl, _, _, _, [], _, [], hW', trodAll_mk1 (shut_bool Try.underlying4 _), (trodAll_cons_mk (structReads _ _) trodAll_mk0), rfl, hg.frame _, fun h => by cases h⟩

theorem over : Rows.prefixTellsRow.holds Try.pinned (OpenSpec.ofChange Rows.prefixTellsSpec) :=
  OpenClaim.holds_of_wide 3 Try.f3 rfl rfl rfl rfl rfl rfl rfl ⟨rfl, rfl, rfl, rfl, rfl⟩ rfl rfl rfl rfl rfl (by kernel_rfl) Try.func3 (by kernel_rfl)
    (of_decide_eq_true (by kernel_rfl)) (by unfold Func.isWrapper; first | (rw [if_pos (by decide +kernel)]; kernel_rfl) | (rw [if_neg (by decide +kernel)]; exact ⟨rfl, rfl⟩))
    (fun os started H enc _ => lifted os started H enc)

theorem proved : Rows.PrefixTellsSaid :=
  over
#print axioms proved
end Go.Proofs.Ytejcnjmcodceaaa.prefixTells
