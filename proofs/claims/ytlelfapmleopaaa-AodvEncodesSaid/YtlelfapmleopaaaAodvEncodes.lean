/-
  The statement AodvEncodes, of any list of messages. No conditions.
-/
import Derived.Test.YtlelfapmleopaaaA5
import Derived.Test.YtlelfapmleopaaaA4
import Derived.Test.YtlelfapmleopaaaOpen
namespace Go.Proofs.Ytlelfapmleopaaa.aodvEncodes
open Go.ChangeShapes Go.WideShapes Go.ChangeAt Go.RowKit
open Go.ChangeMaps (open_string shut_string)
open Go.Proofs.Ytlelfapmleopaaa.Ms
open Go.Proofs.Ytlelfapmleopaaa.Hs
open Go.Proofs.Ytlelfapmleopaaa.Few
open Go.Proofs.Ytlelfapmleopaaa.All
open Go.Proofs.Ytlelfapmleopaaa.A1
open Go.Proofs.Ytlelfapmleopaaa.A2
open Go.Proofs.Ytlelfapmleopaaa.A3
open Go.Proofs.Ytlelfapmleopaaa.A5
open Go.Proofs.Ytlelfapmleopaaa.Open
set_option linter.unusedVariables false

theorem few_all {l : List M} {n : Int} (h : fewL l n = true) : (l.length : Int) ≤ n ∧ ∀ m ∈ l, Sm m := by
  unfold fewL at h
  simp only [Bool.and_eq_true, decide_eq_true_eq] at h
  exact ⟨h.1, fun m hm => few_sm (List.all_eq_true.1 h.2 m hm)⟩
/-- What stays: the list. -/
def SR (w : World) (a : Option Addr) (l : List M) (W : World) : Prop := MRow W a l ∧ Below w.heap.size w W
theorem SR.keep {w : World} {a : Option Addr} {l : List M} (W w1 : World) (h : SR w a l W) (hb : Below W.heap.size W w1) : SR w a l w1 := ⟨h.1.below hb, bcall h.2 hb⟩

set_option maxHeartbeats 6400000 in
set_option maxRecDepth 100000 in
theorem walk (a : Option Addr) (c : Nat) (l : List M) (w : World) (hl : MRow w a l) (hn : l.length ≤ 9223372036854775807) :
    Calls Try.prog 4 #[.slice a l.length c] w fun e w' => e = .returned (.bool true) ∧ Below w.heap.size w w' := by
  have PA := Lib.hid (fun W (h : SR w a l W) => heldP (SR w a l) SR.keep (fewAll_any a c l 5 W h.1 hn) h)
  have P0 := Lib.hid (fun W (h : SR w a l W) => heldP (SR w a l) SR.keep (awake_any W) h)
  have H0 : SR w a l w := ⟨hl, Below.refl _ _⟩
  clear hl hn
  go_enter Try.func4, Try.ntmps4
  cases hfa : fewL l 5
  · rw [hfa] at PA
    clear hfa
    go_wp2_with fail
    refine (PA.out _ H0).mono ?_
    rintro e w1 ⟨rfl, H0⟩
    go_wp2_with fail
    refine (P0.out _ H0).mono ?_
    rintro e w1 ⟨rfl, H0⟩
    go_wp2
    go_ret
    exact ⟨rfl, H0.2⟩
  have HFA := Lib.hid (few_all hfa)
  have hn : l.length ≤ 1000 := by have := HFA.out.1; omega
  rw [hfa] at PA
  clear hfa
  have P1 := Lib.hid (fun W (h : SR w a l W) => encode_any a c l W h.1 HFA.out.2 hn)
  have P2 := Lib.hid (fun W (h : SR w a l W) => A4.rencode_any a c l W h.1 HFA.out.2 hn)
  go_wp2_with fail
  refine (PA.out _ H0).mono ?_
  rintro e w1 ⟨rfl, H0⟩
  clear PA
  have HS0 := Lib.hid H0
  clear H0
  go_upto_region 4 with fail
  go_loopw [3] (fun i wr => ∃ k : Nat, k ≤ l.length ∧ i = .int .i64 k ∧ Hid (SR w a l wr)) (fun i _ => l.length - (intOf i).toNat)
  case atStart => exact ⟨0, Nat.zero_le _, rfl, HS0⟩
  case round =>
    obtain ⟨k, hk, rfl, HQ⟩ := hrel
    by_cases hlt : k < l.length
    · obtain ⟨p, rfl, _, _, _, _⟩ := HQ.out.1 k hlt
      have HC := Lib.hid (fun (W : World) (h : SR w (some p) l W) => show ∀ j v, (l[k].cells.toList)[j]? = some v → W.cell? ((p.add (k * 25)).add j) = some v by
        obtain ⟨p2, hp2, _, hc, _, _⟩ := h.1 k hlt
        obtain rfl : p = p2 := by simpa using hp2
        exact hc)
      have PR := Lib.hid (fun W (h : SR w (some p) l W) => heldP (SR w (some p) l) SR.keep (right_any l[k] W (row_in h.1 HFA.out.2 hlt) (HFA.out.2 _ (List.getElem_mem hlt)).2.2) h)
      have PQ := Lib.hid (fun W (h : SR w (some p) l W) => heldP (SR w (some p) l) SR.keep (rright_any l[k] W (row_in h.1 HFA.out.2 hlt) (HFA.out.2 _ (List.getElem_mem hlt)).2.2) h)
      generalize l[k] = u at *
      generalize okA u = x at *
      go_upto_region 6 with fail
      refine wp_region_held_drew (S := SR w (some p) l) (by kernel_rfl) (SR.keep _ _ HQ.out (Below.refl _ _).drew) (fun hS => ?_)
      clear HQ
      generalize wr.drew = w0 at *
      refine H.take (i := 0) (v := .slice (some p) l.length c) (by simp only [List.getElem?_toArray, List.getElem?_cons_zero]; rfl) (by kernel_rfl) rfl (by kernel_rfl) (by kernel_rfl) (by kernel_rfl) (fun _ _ _ h => h) ?h0 hS ?_
      case h0 => exact fun w _ => rfl
      try simp only [Act.put, List.setIfInBounds_toArray, List.set_cons_zero, List.set_cons_succ]
      refine H.take (i := 1) (v := .int .i64 (k : Int)) (by simp only [List.getElem?_toArray, List.getElem?_cons_succ, List.getElem?_cons_zero]; rfl) (by kernel_rfl) rfl (by kernel_rfl) (by kernel_rfl) (by kernel_rfl) (fun _ _ _ h => h) ?h1 hS ?_
      case h1 => exact fun w _ => rfl
      try simp only [Act.put, List.setIfInBounds_toArray, List.set_cons_zero, List.set_cons_succ]
      refine H.take (i := 2) (v := .pointer (some (p.add (k * 25)))) (by simp only [List.getElem?_toArray, List.getElem?_cons_succ, List.getElem?_cons_zero]; rfl) (by kernel_rfl) rfl (by kernel_rfl) (by kernel_rfl) (by kernel_rfl) (fun _ _ _ h => h) ?h2 hS ?_
      case h2 => exact fun w _ => ex_indexM (x := .tmp 20) (y := .tmp 21) rfl rfl rfl hlt
      try simp only [Act.put, List.setIfInBounds_toArray, List.set_cons_zero, List.set_cons_succ]
      refine H.take (i := 3) (v := .agg (M.cells u)) (by simp only [List.getElem?_toArray, List.getElem?_cons_succ, List.getElem?_cons_zero]; rfl) (by kernel_rfl) rfl (by kernel_rfl) (by kernel_rfl) (by kernel_rfl) (fun _ _ _ h => h) ?h3 hS ?_
      case h3 => exact fun w hw => ex_loadA (x := .tmp 22) rfl rfl (HC.out w hw)
      try simp only [Act.put, List.setIfInBounds_toArray, List.set_cons_zero, List.set_cons_succ]
      refine H.take (i := 5) (v := .slice (some p) l.length c) (by simp only [List.getElem?_toArray, List.getElem?_cons_succ, List.getElem?_cons_zero]; rfl) (by kernel_rfl) rfl (by kernel_rfl) (by kernel_rfl) (by kernel_rfl) (fun _ _ _ h => h) ?h5 hS ?_
      case h5 => exact fun w _ => rfl
      try simp only [Act.put, List.setIfInBounds_toArray, List.set_cons_zero, List.set_cons_succ]
      refine H.take (i := 6) (v := .int .i64 (k : Int)) (by simp only [List.getElem?_toArray, List.getElem?_cons_succ, List.getElem?_cons_zero]; rfl) (by kernel_rfl) rfl (by kernel_rfl) (by kernel_rfl) (by kernel_rfl) (fun _ _ _ h => h) ?h6 hS ?_
      case h6 => exact fun w _ => rfl
      try simp only [Act.put, List.setIfInBounds_toArray, List.set_cons_zero, List.set_cons_succ]
      refine H.take (i := 7) (v := .pointer (some (p.add (k * 25)))) (by simp only [List.getElem?_toArray, List.getElem?_cons_succ, List.getElem?_cons_zero]; rfl) (by kernel_rfl) rfl (by kernel_rfl) (by kernel_rfl) (by kernel_rfl) (fun _ _ _ h => h) ?h7 hS ?_
      case h7 => exact fun w _ => ex_indexM (x := .tmp 25) (y := .tmp 26) rfl rfl rfl hlt
      try simp only [Act.put, List.setIfInBounds_toArray, List.set_cons_zero, List.set_cons_succ]
      refine H.take (i := 8) (v := .agg (M.cells u)) (by simp only [List.getElem?_toArray, List.getElem?_cons_succ, List.getElem?_cons_zero]; rfl) (by kernel_rfl) rfl (by kernel_rfl) (by kernel_rfl) (by kernel_rfl) (fun _ _ _ h => h) ?h8 hS ?_
      case h8 => exact fun w hw => ex_loadA (x := .tmp 27) rfl rfl (HC.out w hw)
      try simp only [Act.put, List.setIfInBounds_toArray, List.set_cons_zero, List.set_cons_succ]
      refine wpAnyH_ready (rs := [4]) (by kernel_rfl) (by simp) ?_
      refine AllReadyH.cons rfl (fun K hK => ?_) AllReadyH.nil
      go_simp
      refine (PR.out _ hS).mono ?_
      rintro e w4 ⟨rfl, hS4⟩
      refine hK.out _ _ hS4 (fun _ => ?_)
      clear hK K hS
      have hS := hS4
      clear hS4
      try simp only [Act.put, List.setIfInBounds_toArray, List.set_cons_zero, List.set_cons_succ]
      refine wpAnyH_ready (rs := [9]) (by kernel_rfl) (by simp) ?_
      refine AllReadyH.cons rfl (fun K hK => ?_) AllReadyH.nil
      go_simp
      refine (PQ.out _ hS).mono ?_
      rintro e w9 ⟨rfl, hS9⟩
      refine hK.out _ _ hS9 (fun _ => ?_)
      clear hK K hS
      have hS := hS9
      clear hS9
      try simp only [Act.put, List.setIfInBounds_toArray, List.set_cons_zero, List.set_cons_succ]
      refine H.take (i := 10) (v := .bool false) (by simp only [List.getElem?_toArray, List.getElem?_cons_succ, List.getElem?_cons_zero]; rfl) (by kernel_rfl) rfl (by kernel_rfl) (by kernel_rfl) (by kernel_rfl) (fun _ _ _ h => h) ?h10 hS ?_
      case h10 => (intro w hw; cases x <;> rfl)
      try simp only [Act.put, List.setIfInBounds_toArray, List.set_cons_zero, List.set_cons_succ]
      refine wpAnyH_done (by kernel_rfl) ?_ _
      have HQ := Lib.hid hS
      clear hS PR PQ HC
      go_wp2
      go_roundw
      case rel => exact ⟨k + 1, hlt, by go_num, HQ⟩
      case measure => simp [intOf]; omega
    · obtain rfl : k = l.length := by omega
      clear hk hlt
      rcases hq : encL l with ⟨b, x, y⟩
      rw [hq] at P1 P2
      clear hq
      go_wp2_with fail
      refine (P1.out _ HQ.out).mono ?_
      rintro e w2 ⟨rfl, hb⟩
      have HQ := Lib.hid (SR.keep _ _ HQ.out hb)
      clear hb P1
      dsimp only
      go_wp2_with fail
      refine (P2.out _ HQ.out).mono ?_
      rintro e w3 ⟨rfl, hb⟩
      have HQ := Lib.hid (SR.keep _ _ HQ.out hb)
      clear hb P2
      dsimp only
      go_wp2_with fail
      refine (P0.out _ HQ.out).mono ?_
      rintro e w4 ⟨rfl, hS4⟩
      have HQ := Lib.hid hS4
      have hbb := bytes_same b
      clear hS4 P0
      go_wp2
      go_ret
      exact ⟨rfl, HQ.out.2⟩

theorem own : ownKnob Try.prog.godebug = none := by kernel_rfl

set_option maxRecDepth 100000 in
theorem lifted (os : Os) (started : os.Started) (H : Type) (enc : TypeId × Value → H) :
    ReturnsInHanded {} Try.checked os 4 .any (Rows.aodvEncodesSpec.pre6 enc Try.prog Try.f4 Rows.aodvEncodesRow.domain false) (Rows.aodvEncodesSpec.post enc Try.prog Try.f4 false true false false) := by
  refine returnsInHanded_of_change (C := Try.checked) own started (by kernel_rfl) Try.func4
    (ChangeSpec.witness6 (enc := enc) (C := Try.checked) false ⟨#[], #[.slice none 0 0], []⟩ 8 (by kernel_rfl) (by kernel_rfl) (by kernel_rfl) (by kernel_rfl)) ?_
  intro W base args ds gs before hval0 hW hcnd _
  have hval : ∀ (j : Nat) t v, Try.f4.params[j]? = some t → args[j]? = some v → Value.okWide Try.prog W .any base t v := hval0
  have hW' := hW
  have hlt := fun x hx => hW'.lt x hx
  obtain ⟨p, q, hA0, hV, rfl, hfz, hnd⟩ := hW
  have hA : DataW.TrodAll enc Try.prog W 0 (fun _ => true) true Try.f4.params.toList args.toList ds p := hA0
  rw [Try.params4] at hA hval
  obtain ⟨v0, vs0, d0, ds0, p0, q0, hargs, rfl, rfl, h0, r0⟩ := trodAll_cons hA
  obtain ⟨rfl, rfl, rfl⟩ := trodAll_nil r0
  obtain rfl : args = #[v0] := by cases args; simp_all
  obtain ⟨rfl, rfl⟩ := trodVars_none hV
  obtain ⟨a, l, c, rfl, hl, ln⟩ := by_list (hval 0 23 v0 rfl rfl) h0
  clear hA0 hval0
  simp only [List.append_nil] at hW' hlt
  refine (walk a c l W hl ln).mono fun e W' ⟨he, hg⟩ => ?_
  subst he
  exact ⟨_, rfl, _, _, _, [], _, [], hW', trodAll_mk1 (shut_bool Try.underlying4 _), (trodAll_cons_mk (again (by kernel_rfl) (of_decide_eq_true (by kernel_rfl)) h0 hg fun x hx => hlt x (by first | exact absurd hx (by simp) | simp [hx])) trodAll_mk0), rfl, hg.frame _, fun h => by cases h⟩

theorem over : Rows.aodvEncodesRow.holds Try.pinned (OpenSpec.ofChange Rows.aodvEncodesSpec) :=
  OpenClaim.holds_of_wide 4 Try.f4 rfl rfl rfl rfl rfl rfl rfl ⟨rfl, rfl, rfl, rfl, rfl⟩ rfl rfl rfl rfl rfl (by kernel_rfl) Try.func4 (by kernel_rfl)
    (of_decide_eq_true (by kernel_rfl)) (by unfold Func.isWrapper; first | (rw [if_pos (by decide +kernel)]; kernel_rfl) | (rw [if_neg (by decide +kernel)]; exact ⟨rfl, rfl⟩))
    (fun os started H enc _ => lifted os started H enc)

theorem proved : Rows.AodvEncodesSaid :=
  over
#print axioms proved
end Go.Proofs.Ytlelfapmleopaaa.aodvEncodes
