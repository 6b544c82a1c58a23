/-
  The statement FieldTells, of any message. Condition: the listed variable has what the program's text lays it with (the tied card).
-/
import Derived.Test.YtlfgfmhpcokjpaaDoorG9
import Derived.Test.YtlfgfmhpcokjpaaDoorCards
import Derived.Test.YtlfgfmhpcokjpaaDoorTie
import Derived.Lay
import Derived.SevenTiedAt
import Derived.Stop.Joined
namespace Go.Proofs.YtlfgfmhpcokjpaaDoor.fieldTells
open Go.ChangeShapes Go.WideShapes Go.ChangeAt Go.RowKit
open Go.ChangeMaps (open_string shut_string)
open Go.Proofs.YtlfgfmhpcokjpaaDoor.Ms
open Go.Proofs.YtlfgfmhpcokjpaaDoor.Box
open Go.Proofs.YtlfgfmhpcokjpaaDoor.S1
open Go.Proofs.YtlfgfmhpcokjpaaDoor.G1
open Go.Proofs.YtlfgfmhpcokjpaaDoor.An
open Go.Proofs.YtlfgfmhpcokjpaaDoor.Tb
open Go.Proofs.YtlfgfmhpcokjpaaDoor.G9
open Go.Proofs.YtlfgfmhpcokjpaaDoor.Hs
open Go.Proofs.YtlfgfmhpcokjpaaDoor.Open
set_option linter.unusedVariables false

open Go.Proofs.YtlfgfmhpcokjpaaDoor.Tl (cellsT)
open Go.Proofs.YtlfgfmhpcokjpaaDoor.Or (st_yes)
open Go.Proofs.YtlfgfmhpcokjpaaDoor.Hx (ex_built)
open Go.Proofs.YtlfgfmhpcokjpaaDoor.Bk (Bk)

set_option maxHeartbeats 6400000 in
set_option maxRecDepth 100000 in
theorem walk (m : M) (w : World) (hd : DRow w m.la m.ll) (hs : SRow w m.sa m.sl) (ht : Tab w) :
    Calls Tryd.prog 3 #[.agg m.cells] w fun r w' => r = .returned (.bool true) ∧ Below w.heap.size w w' := by
  by_cases hf : Few.fewB m = true
  rotate_left
  · have hf : Few.fewB m = false := by simpa using hf
    go_enter Tryd.func3, Tryd.ntmps3
    go_upto_region 1 with fail
    have B0 := Lib.hid (Bx.new w m)
    have HB := Lib.hid (balloc (Below.refl _ w) (.cells m.cells 25))
    have HT := Lib.hid (ht.below HB.out)
    have PF := Lib.hid (Few.few_any m (w.alloc (.cells m.cells 25)) (hd.below HB.out) (hs.below HB.out))
    clear hd hs ht
    generalize w.alloc (.cells m.cells 25) = V at *
    rw [hf] at PF
    clear hf
    go_wp2_with (first | (refine wpList_loadM (b := w.heap.size) (m := m) rfl _ rfl rfl B0.out ?_))
    refine PF.out.mono ?_
    rintro r w1 ⟨rfl, hb⟩
    have HT := Lib.hid (HT.out.below hb)
    have HB := Lib.hid (bcall HB.out hb)
    clear hb PF B0
    go_wp2_with fail
    refine (awake_any _ HT.out).mono ?_
    rintro r w2 ⟨rfl, hb⟩
    have HB := Lib.hid (bcall HB.out hb)
    clear hb
    go_wp2
    go_ret
    exact ⟨rfl, HB.out⟩
  have hi := few_in hf hd hs
  obtain ⟨_, hl, hz⟩ := few_parts hf
  have P1 := Lib.hid (fun V (h : m.In V) (q : Tab V) => G3.put_any m V h (by omega) hz q)
  have P2 := Lib.hid (fun V (h : m.In V) => G7.rput_any m V h (by omega) hz)
  have P3 := Lib.hid (fun V (h : m.In V) (q : Tab V) => G2.right_any m V h hz q)
  have P4 := Lib.hid (fun V (h : m.In V) => G2.rright_any m V h hz)
  have e1 := bytes_same (putF m)
  generalize putF m = z at *
  generalize okF m = x at *
  have e2 : (x == x) = true := by simp
  have HF := Lib.hid (show FT w w.heap.size m (w.alloc (.cells m.cells 25)) from ⟨Fs.new w m hi, ht.below (balloc (Below.refl _ w) _)⟩)
  go_enter Tryd.func3, Tryd.ntmps3
  go_upto_region 1 with fail
  have PF := Lib.hid (Few.few_any m (w.alloc (.cells m.cells 25)) HF.out.1.i.d HF.out.1.i.s)
  rw [hf] at PF
  clear hf hd hs hi hl hz ht
  generalize w.alloc (.cells m.cells 25) = V at *
  go_wp2_with (first | (refine wpList_loadM (b := w.heap.size) (m := m) rfl _ rfl rfl HF.out.1.m ?_))
  refine (PF.out).mono ?_
  rintro r w1 ⟨rfl, hb⟩
  have HF := Lib.hid (HF.out.call hb)
  clear hb
  go_wp2_with (first | (refine wpList_loadM (b := w.heap.size) (m := m) rfl _ rfl rfl HF.out.1.m ?_))
  refine (P1.out _ HF.out.1.i HF.out.2).mono ?_
  rintro r w2 ⟨rfl, hb⟩
  have HF := Lib.hid (HF.out.call hb)
  clear hb
  go_wp2_with (first | (refine wpList_loadM (b := w.heap.size) (m := m) rfl _ rfl rfl HF.out.1.m ?_))
  refine (P2.out _ HF.out.1.i).mono ?_
  rintro r w3 ⟨rfl, hb⟩
  have HF := Lib.hid (HF.out.call hb)
  clear hb
  go_upto_region 5 with fail
  refine wp_region_held_drew (S := FT w w.heap.size m) (by kernel_rfl) HF.out.drew (fun hS => ?_)
  clear HF
  generalize w3.drew = X0 at *
  refine wpAnyH_ready (rs := [0]) (by kernel_rfl) (by simp) ?_
  refine AllReadyH.cons rfl (fun K hK => ?_) AllReadyH.nil
  go_simp
  refine (heldT (awake_any _ hS.2) hS).mono ?_
  rintro e w0 ⟨rfl, hS0⟩
  refine hK.out _ _ hS0 (fun _ => ?_)
  clear hK K hS
  have hS := hS0
  clear hS0
  try simp only [Act.put, List.setIfInBounds_toArray, List.set_cons_zero, List.set_cons_succ]
  refine H.tk (i := 1) (v := (.bool true)) (fun w _ => rfl) hS ?_
  try simp only [Act.put, List.setIfInBounds_toArray, List.set_cons_zero, List.set_cons_succ]
  refine H.tk (i := 2) (v := .agg (M.cells m)) ?h2 hS ?_
  case h2 => exact fun w hw => run_loadM (x := .tmp 1) rfl rfl (hw.1.m)
  try simp only [Act.put, List.setIfInBounds_toArray, List.set_cons_zero, List.set_cons_succ]
  refine H.tk (i := 4) (v := .agg (M.cells m)) ?h4 hS ?_
  case h4 => exact fun w hw => run_loadM (x := .tmp 1) rfl rfl (hw.1.m)
  try simp only [Act.put, List.setIfInBounds_toArray, List.set_cons_zero, List.set_cons_succ]
  refine wpAnyH_ready (rs := [3]) (by kernel_rfl) (by simp) ?_
  refine AllReadyH.cons rfl (fun K hK => ?_) AllReadyH.nil
  go_simp
  refine (heldT (P3.out _ hS.1.i hS.2) hS).mono ?_
  rintro e w3 ⟨rfl, hS3⟩
  refine hK.out _ _ hS3 (fun _ => ?_)
  clear hK K hS
  have hS := hS3
  clear hS3
  try simp only [Act.put, List.setIfInBounds_toArray, List.set_cons_zero, List.set_cons_succ]
  refine wpAnyH_ready (rs := [5]) (by kernel_rfl) (by simp) ?_
  refine AllReadyH.cons rfl (fun K hK => ?_) AllReadyH.nil
  go_simp
  refine (heldT (P4.out _ hS.1.i) hS).mono ?_
  rintro e w5 ⟨rfl, hS5⟩
  refine hK.out _ _ hS5 (fun _ => ?_)
  clear hK K hS
  have hS := hS5
  clear hS5
  try simp only [Act.put, List.setIfInBounds_toArray, List.set_cons_zero, List.set_cons_succ]
  refine H.tk (i := 6) (v := .bool true) ?h6 hS ?_
  case h6 => exact (fun w hw => by go_simp)
  try simp only [Act.put, List.setIfInBounds_toArray, List.set_cons_zero, List.set_cons_succ]
  refine H.tk (i := 7) (v := (.bool true)) (fun w _ => rfl) hS ?_
  try simp only [Act.put, List.setIfInBounds_toArray, List.set_cons_zero, List.set_cons_succ]
  refine H.tk (i := 8) (v := (.bool true)) (fun w _ => rfl) hS ?_
  try simp only [Act.put, List.setIfInBounds_toArray, List.set_cons_zero, List.set_cons_succ]
  refine H.tk (i := 9) (v := ?v9) ?h9 hS ?_
  case h9 => (intro w hw; go_simp; first | done | (with_reducible rfl))
  try simp only [Act.put, List.setIfInBounds_toArray, List.set_cons_zero, List.set_cons_succ]
  refine H.tk (i := 10) (v := ?v10) ?h10 hS ?_
  case h10 => (intro w hw; go_simp; first | done | (with_reducible rfl))
  try simp only [Act.put, List.setIfInBounds_toArray, List.set_cons_zero, List.set_cons_succ]
  refine H.tk (i := 11) (v := .bool true) ?h11 hS ?_
  case h11 => exact (fun w hw => by go_simp)
  try simp only [Act.put, List.setIfInBounds_toArray, List.set_cons_zero, List.set_cons_succ]
  refine H.tk (i := 12) (v := (.bool true)) (fun w _ => rfl) hS ?_
  try simp only [Act.put, List.setIfInBounds_toArray, List.set_cons_zero, List.set_cons_succ]
  refine H.tk (i := 13) (v := (.bool true)) (fun w _ => rfl) hS ?_
  try simp only [Act.put, List.setIfInBounds_toArray, List.set_cons_zero, List.set_cons_succ]
  refine H.tk (i := 14) (v := ?v14) ?h14 hS ?_
  case h14 => (intro w hw; go_simp; first | done | (with_reducible rfl))
  try simp only [Act.put, List.setIfInBounds_toArray, List.set_cons_zero, List.set_cons_succ]
  refine H.tk (i := 15) (v := ?v15) ?h15 hS ?_
  case h15 => (intro w hw; go_simp; first | done | (with_reducible rfl))
  try simp only [Act.put, List.setIfInBounds_toArray, List.set_cons_zero, List.set_cons_succ]
  refine H.tk (i := 16) (v := .bool true) ?h16 hS ?_
  case h16 => exact (fun w hw => by go_simp)
  try simp only [Act.put, List.setIfInBounds_toArray, List.set_cons_zero, List.set_cons_succ]
  refine H.tk (i := 17) (v := (.bool true)) (fun w _ => rfl) hS ?_
  try simp only [Act.put, List.setIfInBounds_toArray, List.set_cons_zero, List.set_cons_succ]
  refine H.tk (i := 18) (v := (.bool true)) (fun w _ => rfl) hS ?_
  try simp only [Act.put, List.setIfInBounds_toArray, List.set_cons_zero, List.set_cons_succ]
  refine wpAnyH_done (by kernel_rfl) ?_ _
  go_wp2
  go_ret
  exact ⟨rfl, hS.1.bel⟩

theorem own : ownKnob Tryd.prog.godebug = none := by kernel_rfl

set_option maxRecDepth 100000 in
theorem lifted (os : Os) (started : os.Started) (H : Type) (enc : TypeId × Value → H) :
    ReturnsInHanded {} Tryd.checked os 3 .any (fun w args => (Rows.fieldTellsSpec.pre enc Tryd.prog Tryd.f3 Rows.fieldTellsRow.domain false w args ∧ laidMetH Tryd.prog Rows.fieldTellsRow.laid w) ∧ sizedMet enc Tryd.prog Tryd.f3 (OpenSpec.ofChange Rows.fieldTellsSpec) false w args)
      (Rows.fieldTellsSpec.post enc Tryd.prog Tryd.f3 false true false false) := by
  refine returnsInHanded_of_change_and (C := Tryd.checked) (X := fun w _ => laidMetH Tryd.prog Rows.fieldTellsRow.laid w) (fun _ _ _ hh h => h.of_heap hh) own started (by kernel_rfl) Tryd.func3
    (ChangeSpec.witness_shaped (enc := enc) (C := Tryd.checked) (os := os) (X := fun w _ => laidMetH Tryd.prog Rows.fieldTellsRow.laid w) false (World.laidAll Tryd.prog os Rows.fieldTellsRow.laid) #[.agg M.zero.cells] 8 (World.laidAll_os _ _ _)
      (World.shaped_of_ZipB (by kernel_rfl) (by kernel_rfl)) (by kernel_rfl) (by kernel_rfl) (by kernel_rfl)
      (by rw [MakeChecks.laidMetH_plain _ _ _ (by kernel_rfl)]; exact laidMet_laidAll _ (by kernel_rfl) (by kernel_rfl))) ?_
  intro W base args ds gs before hval0 hW _ _ hL0 _
  have hMet := of_laid hL0
  have hval : ∀ (j : Nat) t v, Tryd.f3.params[j]? = some t → args[j]? = some v → Value.okWide Tryd.prog W .any base t v := hval0
  have hW' := hW
  have hlt := fun x hx => hW'.lt x hx
  obtain ⟨p, q, hA0, hV, rfl, hfz, hnd⟩ := hW
  have hA : DataW.TrodAll enc Tryd.prog W 0 (fun _ => true) true Tryd.f3.params.toList args.toList ds p := hA0
  rw [Tryd.params3] at hA hval
  obtain ⟨v0, vs0, d0, ds0, p0, q0, hargs, rfl, rfl, h0, r0⟩ := trodAll_cons hA
  obtain ⟨rfl, rfl, rfl⟩ := trodAll_nil r0
  obtain rfl : args = #[v0] := by cases args; simp_all
  obtain ⟨rfl, rfl⟩ := trodVars_none hV
  obtain ⟨m, rfl, hd, hs⟩ := by_value (hval 0 25 v0 rfl rfl) h0
  clear hA0 hval0
  simp only [List.append_nil] at hW' hlt
  refine (walk m W hd hs hMet).mono fun e W' ⟨he, hg⟩ => ?_
  subst he
  exact ⟨_, rfl, _, _, _, [], _, [], hW', trodAll_mk1 (shut_bool Tryd.underlying4 _), (trodAll_cons_mk (again (by kernel_rfl) (of_decide_eq_true (by kernel_rfl)) h0 hg fun x hx => hlt x (by first | exact absurd hx (by simp) | simp [hx])) trodAll_mk0), rfl, hg.frame _, fun h => by cases h⟩

theorem over : Rows.FieldTellsSaid :=
  OpenClaim.holds_of_wide 3 Tryd.f3 rfl rfl rfl rfl rfl rfl rfl ⟨rfl, rfl, rfl, rfl, rfl⟩ rfl rfl rfl rfl rfl (by kernel_rfl) Tryd.func3 (by kernel_rfl)
    (of_decide_eq_true (by kernel_rfl)) (by unfold Func.isWrapper; first | (rw [if_pos (by decide +kernel)]; kernel_rfl) | (rw [if_neg (by decide +kernel)]; exact ⟨rfl, rfl⟩))
    (fun os started H enc _ => lifted os started H enc)

theorem proved : Rows.FieldTellsCardSaid :=
  Claim7.holds_tied_plain_at .later [] _ true _ _
    over (fun _ h => by cases h) (by kernel_rfl) (fun _ h => by cases h) fieldTells_row_tie rfl ⟨rfl, rfl⟩ (by kernel_rfl) rfl
    (fun f fn hf hfn => by
      obtain rfl : f = 3 := Option.some.inj ((show Tryd.prog.funcNamed "roadbook/roadbooklaw20.FieldTells" = some 3 by kernel_rfl).symm.trans hf) |>.symm
      obtain rfl : fn = Tryd.f3 := (Option.some.inj (Tryd.func3.symm.trans hfn)).symm
      exact ⟨by kernel_rfl, fun j t ht => by
        rw [Tryd.params3] at ht
        have hm : t ∈ [25] := by simpa using Array.mem_of_getElem? ht
        have hall : ([25].all fun u => !Tryd.prog.wantsStandIn u) = true := by kernel_rfl
        exact (show Tryd.prog.wantsStandIn t = false by simpa using List.all_eq_true.1 hall t hm)⟩)
    (by kernel_rfl)
#print axioms proved
end Go.Proofs.YtlfgfmhpcokjpaaDoor.fieldTells
