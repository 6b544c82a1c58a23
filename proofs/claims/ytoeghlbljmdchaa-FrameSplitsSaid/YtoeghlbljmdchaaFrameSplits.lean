/-
  The statement FrameSplits, of any ask. No conditions.
-/
import Derived.Test.YtoeghlbljmdchaaF8
namespace Go.Proofs.Ytoeghlbljmdchaa.frameSplits
open Go.ChangeShapes Go.WideShapes Go.ChangeAt Go.RowKit
open Go.ChangeMaps (open_string shut_string)
open Go.Proofs.Ytoeghlbljmdchaa.F1
open Go.Proofs.Ytoeghlbljmdchaa.F2
open Go.Proofs.Ytoeghlbljmdchaa.F4
open Go.Proofs.Ytoeghlbljmdchaa.F5
open Go.Proofs.Ytoeghlbljmdchaa.F6
open Go.Proofs.Ytoeghlbljmdchaa.F7
open Go.Proofs.Ytoeghlbljmdchaa.Tl
open Go.Proofs.Ytoeghlbljmdchaa.Hs
open Go.Proofs.Ytoeghlbljmdchaa.Open
set_option linter.unusedVariables false

theorem box_cells (w : World) (s : ByteArray) (b t : Int) (d : ByteArray) : ((w.alloc (.cells (askC s b t d) 32)).cell? ⟨w.heap.size, 0, none⟩ = some (.string s) ∧ (w.alloc (.cells (askC s b t d) 32)).cell? ⟨w.heap.size, 1, none⟩ = some (.int .u16 b) ∧ (w.alloc (.cells (askC s b t d) 32)).cell? ⟨w.heap.size, 2, none⟩ = some (.int .i64 t) ∧ (w.alloc (.cells (askC s b t d) 32)).cell? ⟨w.heap.size, 3, none⟩ = some (.string d)) := by
  unfold askC
  refine ⟨?_, ?_, ?_, ?_⟩ <;> simp [go_sem]
theorem int_same (i : Int) : (i == i) = true := by simp

set_option maxHeartbeats 6400000 in
set_option maxRecDepth 100000 in
theorem walk (s : ByteArray) (b t : Int) (d : ByteArray) (w : World) (hm : s.size ≤ maxLen) (h0 : 0 ≤ b) (h1 : b ≤ 65535) (hd : d.size ≤ maxLen) :
    Calls Try.prog 4 #[.agg (askC s b t d)] w fun r w' => r = .returned (.bool true) ∧ Below w.heap.size w w' := by
  unfold maxLen at hm hd
  obtain ⟨c0, c1, c2, c3⟩ := box_cells w s b t d
  have bel := balloc (Below.refl _ w) (.cells (askC s b t d) 32)
  unfold askC at *
  by_cases hs : 3000 < s.size
  · go_enter Try.func4, Try.ntmps4
    go_wp2
    generalize w.alloc (.cells #[.string s, .int .u16 b, .int .i64 t, .string d] 32) = W at *
    go_region
    all_goals
      have HB := Lib.hid bel.drew
      clear c0 c1 c2 c3 bel
      generalize W.drew = V at *
      go_wp2_with fail
      refine (awake_any _).mono ?_
      rintro r w1 ⟨rfl, hb⟩
      have HB := Lib.hid (bcall HB.out hb)
      clear hb
      go_wp2
      go_ret
      exact ⟨rfl, HB.out⟩
  by_cases hs2 : 300 < d.size
  · go_enter Try.func4, Try.ntmps4
    go_wp2
    generalize w.alloc (.cells #[.string s, .int .u16 b, .int .i64 t, .string d] 32) = W at *
    go_region
    all_goals
      have HB := Lib.hid bel.drew
      clear c0 c1 c2 c3 bel
      generalize W.drew = V at *
      go_wp2_with fail
      refine (awake_any _).mono ?_
      rintro r w1 ⟨rfl, hb⟩
      have HB := Lib.hid (bcall HB.out hb)
      clear hb
      go_wp2
      go_ret
      exact ⟨rfl, HB.out⟩
  have P1 := Lib.hid (fun W => split_own s b W (by omega) h0 (by omega))
  have P2 := Lib.hid (fun W => rsplit_own s b W (by omega) h0 (by omega))
  have P3 := Lib.hid (fun W => put_any t d W (by omega))
  have P4 := Lib.hid (fun W => rput_any t d W (by omega))
  unfold PutIs at P3 P4
  have HZ := Lib.hid (out_size b s)
  have HS := Lib.hid (show s.size ≤ 3000 by omega)
  rcases hq : outT b s with ⟨l, x, y⟩
  rw [hq] at P1 P2 HZ
  have e1 := bytes_same (putO t d)
  have e2 := int_same x
  have e3 := int_same y
  have cv : ∀ W, (convert 30 3 (.int .u16 b)).run Try.prog W = .ok (.int .i64 b) W := fun W => by
    rw [run_convert_int W 30 3 .u16 b (by rw [Try.underlying30]; rfl) Try.underlying3, show Try.prog.intKind 3 = .i64 by kernel_rfl, IntWalk.i64_in b (by omega)]
  generalize putO t d = u at *
  cases hp : putB t d
  · rw [hp] at P3 P4
    clear hp hq
    go_enter Try.func4, Try.ntmps4
    go_wp2
    generalize w.alloc (.cells #[.string s, .int .u16 b, .int .i64 t, .string d] 32) = W at *
    go_region
    all_goals
      have HB := Lib.hid bel.drew
      clear c0 c1 c2 c3 bel
      generalize W.drew = V at *
      go_wp2_with fail
      refine (P1.out _).mono ?_
      rintro r w1 ⟨a1, k1, rfl, m1, hb⟩
      have M1 := Lib.hid m1
      have HB := Lib.hid (bcall HB.out hb)
      clear hb m1 P1
      dsimp only [List.length_nil]
      go_wp2_with fail
      refine (P2.out _).mono ?_
      rintro r w2 ⟨a2, k2, rfl, m1, hb⟩
      have M1 := Lib.hid (M1.out.below hb)
      have M2 := Lib.hid m1
      have HB := Lib.hid (bcall HB.out hb)
      clear hb m1 P2
      dsimp only [List.length_nil]
      go_wp2_with fail
      refine (P3.out _).mono ?_
      rintro r w3 ⟨rfl, hb⟩
      have M1 := Lib.hid (M1.out.below hb)
      have M2 := Lib.hid (M2.out.below hb)
      have HB := Lib.hid (bcall HB.out hb)
      clear hb  P3
      go_wp2_with fail
      refine (P4.out _).mono ?_
      rintro r w4 ⟨rfl, hb⟩
      have M1 := Lib.hid (M1.out.below hb)
      have M2 := Lib.hid (M2.out.below hb)
      have HB := Lib.hid (bcall HB.out hb)
      clear hb  P4
      go_wp2_with fail
      refine (awake_any _).mono ?_
      rintro r w5 ⟨rfl, hb⟩
      have M1 := Lib.hid (M1.out.below hb)
      have M2 := Lib.hid (M2.out.below hb)
      have HB := Lib.hid (bcall HB.out hb)
      clear hb
      have PS := Lib.hid (same_any a1 a2 k1 k2 l l w5 M1.out.row M2.out.row (by have := HZ.out; have := HS.out; omega) (by have := HZ.out; have := HS.out; omega))
      rw [decide_eq_true rfl] at PS
      go_wp2_with fail
      refine (PS.out).mono ?_
      rintro r w6 ⟨rfl, hb⟩
      have HB := Lib.hid (bcall HB.out hb)
      clear hb  PS M1 M2
      go_wp2
      go_ret
      exact ⟨rfl, HB.out⟩
  · rw [hp] at P3 P4
    clear hp hq
    go_enter Try.func4, Try.ntmps4
    go_wp2
    generalize w.alloc (.cells #[.string s, .int .u16 b, .int .i64 t, .string d] 32) = W at *
    go_region
    all_goals
      have HB := Lib.hid bel.drew
      clear c0 c1 c2 c3 bel
      generalize W.drew = V at *
      go_wp2_with fail
      refine (P1.out _).mono ?_
      rintro r w1 ⟨a1, k1, rfl, m1, hb⟩
      have M1 := Lib.hid m1
      have HB := Lib.hid (bcall HB.out hb)
      clear hb m1 P1
      dsimp only [List.length_nil]
      go_wp2_with fail
      refine (P2.out _).mono ?_
      rintro r w2 ⟨a2, k2, rfl, m1, hb⟩
      have M1 := Lib.hid (M1.out.below hb)
      have M2 := Lib.hid m1
      have HB := Lib.hid (bcall HB.out hb)
      clear hb m1 P2
      dsimp only [List.length_nil]
      go_wp2_with fail
      refine (P3.out _).mono ?_
      rintro r w3 ⟨rfl, hb⟩
      have M1 := Lib.hid (M1.out.below hb)
      have M2 := Lib.hid (M2.out.below hb)
      have HB := Lib.hid (bcall HB.out hb)
      clear hb  P3
      go_wp2_with fail
      refine (P4.out _).mono ?_
      rintro r w4 ⟨rfl, hb⟩
      have M1 := Lib.hid (M1.out.below hb)
      have M2 := Lib.hid (M2.out.below hb)
      have HB := Lib.hid (bcall HB.out hb)
      clear hb  P4
      go_wp2_with fail
      refine (awake_any _).mono ?_
      rintro r w5 ⟨rfl, hb⟩
      have M1 := Lib.hid (M1.out.below hb)
      have M2 := Lib.hid (M2.out.below hb)
      have HB := Lib.hid (bcall HB.out hb)
      clear hb
      have PS := Lib.hid (same_any a1 a2 k1 k2 l l w5 M1.out.row M2.out.row (by have := HZ.out; have := HS.out; omega) (by have := HZ.out; have := HS.out; omega))
      rw [decide_eq_true rfl] at PS
      go_wp2_with fail
      refine (PS.out).mono ?_
      rintro r w6 ⟨rfl, hb⟩
      have HB := Lib.hid (bcall HB.out hb)
      clear hb  PS M1 M2
      go_wp2
      go_ret
      exact ⟨rfl, HB.out⟩

theorem own : ownKnob Try.prog.godebug = none := by kernel_rfl

set_option maxRecDepth 100000 in
theorem lifted (os : Os) (started : os.Started) (H : Type) (enc : TypeId × Value → H) :
    ReturnsInHanded {} Try.checked os 4 .any (Rows.frameSplitsSpec.pre6 enc Try.prog Try.f4 Rows.frameSplitsRow.domain false) (Rows.frameSplitsSpec.post enc Try.prog Try.f4 false true false false) := by
  refine returnsInHanded_of_change (C := Try.checked) own started (by kernel_rfl) Try.func4
    (ChangeSpec.witness6 (enc := enc) (C := Try.checked) false ⟨#[], #[.agg (askC ⟨#[]⟩ 0 0 ⟨#[]⟩)], []⟩ 8 (by kernel_rfl) (by kernel_rfl) (by kernel_rfl) (by kernel_rfl)) ?_
  intro W base args ds gs before hval0 hW hcnd _
  have hval : ∀ (j : Nat) t v, Try.f4.params[j]? = some t → args[j]? = some v → Value.okWide Try.prog W .any base t v := hval0
  have hW' := hW
  have hlt := fun x hx => hW'.lt x hx
  obtain ⟨p, q, hA0, hV, rfl, hfz, hnd⟩ := hW
  have hA : DataW.TrodAll enc Try.prog W 0 (fun _ => true) true Try.f4.params.toList args.toList ds p := hA0
  rw [Try.params4] at hA hval
  obtain ⟨v0, vs0, d0, ds0, p0, q0, hargs, rfl, rfl, h0, r0⟩ := trodAll_cons hA
  obtain ⟨rfl, rfl, rfl⟩ := trodAll_nil r0
  obtain rfl : args = #[v0] := by cases args; simp_all
  obtain ⟨rfl, rfl⟩ := trodVars_none hV
  obtain ⟨s, b, ty, d, rfl, wm, w0, w1, wd⟩ := by_ask (hval 0 32 v0 rfl rfl) h0
  clear hA0 hval0
  simp only [List.append_nil] at hW' hlt
  refine (walk s b ty d W wm w0 w1 wd).mono fun e W' ⟨he, hg⟩ => ?_
  subst he
  exact ⟨_, rfl, _, _, _, [], _, [], hW', trodAll_mk1 (shut_bool Try.underlying4 _), (trodAll_cons_mk (again (by kernel_rfl) (of_decide_eq_true (by kernel_rfl)) h0 hg fun x hx => hlt x (by first | exact absurd hx (by simp) | simp [hx])) trodAll_mk0), rfl, hg.frame _, fun h => by cases h⟩

theorem over : Rows.frameSplitsRow.holds Try.pinned (OpenSpec.ofChange Rows.frameSplitsSpec) :=
  OpenClaim.holds_of_wide 4 Try.f4 rfl rfl rfl rfl rfl rfl rfl ⟨rfl, rfl, rfl, rfl, rfl⟩ rfl rfl rfl rfl rfl (by kernel_rfl) Try.func4 (by kernel_rfl)
    (of_decide_eq_true (by kernel_rfl)) (by unfold Func.isWrapper; first | (rw [if_pos (by decide +kernel)]; kernel_rfl) | (rw [if_neg (by decide +kernel)]; exact ⟨rfl, rfl⟩))
    (fun os started H enc _ => lifted os started H enc)

theorem proved : Rows.FrameSplitsSaid :=
  over
#print axioms proved
end Go.Proofs.Ytoeghlbljmdchaa.frameSplits
