/-
  Whether two messages are the same: the program's answer. Condition: lists of at most 2^20 elements.
-/
import Derived.Test.YtjhfpobjbijcpaaGreatDoorB04
namespace Go.Proofs.YtjhfpobjbijcpaaGreatDoor.SameP
open Go.ChangeShapes Go.WideShapes Go.ChangeAt Go.RowKit
open Go.Proofs.YtjhfpobjbijcpaaGreatDoor.Ms
open Go.Proofs.YtjhfpobjbijcpaaGreatDoor.Box
open Go.Proofs.YtjhfpobjbijcpaaGreatDoor.Eq
open Go.Proofs.YtjhfpobjbijcpaaGreatDoor.Same
open Go.Proofs.YtjhfpobjbijcpaaGreatDoor.Hs
set_option linter.unusedVariables false
set_option maxRecDepth 100000

theorem start (w : World) (m m' : M) : Bx ((w.alloc (.cells m.cells 38)).alloc (.cells m'.cells 38)) w.heap.size m ∧ Bx ((w.alloc (.cells m.cells 38)).alloc (.cells m'.cells 38)) (w.heap.size + 1) m' ∧ Below w.heap.size w ((w.alloc (.cells m.cells 38)).alloc (.cells m'.cells 38)) :=
  ⟨(Bx.new w m).old _, by have := Bx.new (w.alloc (.cells m.cells 38)) m'; rwa [alloc_size] at this, balloc (balloc (Below.refl _ _) _) _⟩

/-- What stays in a region over two messages. -/
def S2 (w : World) (a b : M) (W : World) : Prop := Bx W w.heap.size a ∧ Bx W (w.heap.size + 1) b ∧ a.In W ∧ b.In W ∧ Below w.heap.size w W
theorem S2.keep {w : World} {a b : M} (W w1 : World) (h : S2 w a b W) (hb : Below W.heap.size W w1) : S2 w a b w1 := ⟨h.1.below hb, h.2.1.below hb, h.2.2.1.below hb, h.2.2.2.1.below hb, bcall h.2.2.2.2 hb⟩

set_option maxHeartbeats 1600000 in
set_option maxRecDepth 100000 in
theorem same_any (a b : M) (w : World) (ha : a.In w) (hb : b.In w) :
    Calls Tryz.prog 104 #[.agg a.cells, .agg b.cells] w fun e w' => e = .returned (.bool (M.same a b)) ∧ Below w.heap.size w w' := by
  have PA := Lib.hid (fun W (h : S2 w a b W) => heldP (S2 w a b) S2.keep (flatten_any a W) h)
  have PB := Lib.hid (fun W (h : S2 w a b W) => heldP (S2 w a b) S2.keep (flatten_any b W) h)
  have PD := Lib.hid (fun W (h : S2 w a b W) => heldP (S2 w a b) S2.keep (dests_any a.la b.la a.lc b.lc a.ll b.ll W h.2.2.1.d h.2.2.2.1.d h.2.2.1.dl h.2.2.2.1.dl) h)
  have PS := Lib.hid (fun W (h : S2 w a b W) => heldP (S2 w a b) S2.keep (subs_any a.sa b.sa a.sc b.sc a.sl b.sl W h.2.2.1.s h.2.2.2.1.s h.2.2.1.sl h.2.2.2.1.sl) h)
  have HE := Lib.hid (show M.same a b = (M.flatE a b && (decide (a.ll = b.ll) && decide (a.sl = b.sl))) from rfl)
  obtain ⟨ba, bb, bel⟩ := start w a b
  have h0 : S2 w a b ((w.alloc (.cells a.cells 38)).alloc (.cells b.cells 38)) := ⟨ba, bb, ha.below (balloc (balloc (Below.refl _ _) _) _), hb.below (balloc (balloc (Below.refl _ _) _) _), bel⟩
  clear ba bb bel ha hb
  generalize decide (a.ll = b.ll) = D at *
  generalize decide (a.sl = b.sl) = E at *
  go_enter Tryz.func104, Tryz.ntmps104
  go_upto_region 1 with fail
  generalize (w.alloc (.cells a.cells 38)).alloc (.cells b.cells 38) = V at *
  have hV : S2 w a b V.drew := S2.keep V _ h0 (Below.refl _ _).drew
  clear h0
  refine wp_region_held_drew (S := S2 w a b) (by kernel_rfl) hV (fun hS => ?_)
  clear hV
  rcases (show M.flatE a b = false ∨ (M.flatE a b = true ∧ D = false) ∨ (M.flatE a b = true ∧ D = true) by cases M.flatE a b <;> cases D <;> simp) with hF | ⟨hF, hD⟩ | ⟨hF, hD⟩
  · subst_vars
    have HF := Lib.hid hF
    clear hF
    refine H.tk (i := 0) (v := .agg (M.cells a)) ?h0 hS ?_
    case h0 => exact fun w hw => run_loadM (x := .tmp 2) rfl rfl (hw.1)
    try simp only [Act.put, List.setIfInBounds_toArray, List.set_cons_zero, List.set_cons_succ]
    refine H.tk (i := 2) (v := .agg (M.cells b)) ?h2 hS ?_
    case h2 => exact fun w hw => run_loadM (x := .tmp 3) rfl rfl (hw.2.1)
    try simp only [Act.put, List.setIfInBounds_toArray, List.set_cons_zero, List.set_cons_succ]
    refine wpAnyH_ready (rs := [1]) (by kernel_rfl) (by simp) ?_
    refine AllReadyH.cons rfl (fun K hK => ?_) AllReadyH.nil
    go_simp
    refine (PA.out _ hS).mono ?_
    rintro e w1 ⟨rfl, hS1⟩
    refine hK.out _ _ hS1 (fun _ => ?_)
    clear hK K hS
    have hS := hS1
    clear hS1
    try simp only [Act.put, List.setIfInBounds_toArray, List.set_cons_zero, List.set_cons_succ]
    refine wpAnyH_ready (rs := [3]) (by kernel_rfl) (by simp) ?_
    refine AllReadyH.cons rfl (fun K hK => ?_) AllReadyH.nil
    go_simp
    refine (PB.out _ hS).mono ?_
    rintro e w3 ⟨rfl, hS3⟩
    refine hK.out _ _ hS3 (fun _ => ?_)
    clear hK K hS
    have hS := hS3
    clear hS3
    try simp only [Act.put, List.setIfInBounds_toArray, List.set_cons_zero, List.set_cons_succ]
    refine H.tk (i := 4) (v := .bool false) ?h4 hS ?_
    case h4 => exact fun w _ => run_eqF (x := .tmp 6) (y := .tmp 8) rfl rfl rfl HF.out
    try simp only [Act.put, List.setIfInBounds_toArray, List.set_cons_zero, List.set_cons_succ]
    refine H.tk (i := 5) (v := (.bool false)) (fun w _ => rfl) hS ?_
    try simp only [Act.put, List.setIfInBounds_toArray, List.set_cons_zero, List.set_cons_succ]
    refine H.sk (i := 6) (d := 11) hS ?_
    try simp only [Act.put, List.setIfInBounds_toArray, List.set_cons_zero, List.set_cons_succ]
    refine H.sk (i := 7) (d := 12) hS ?_
    try simp only [Act.put, List.setIfInBounds_toArray, List.set_cons_zero, List.set_cons_succ]
    refine H.sk (i := 8) (d := 13) hS ?_
    try simp only [Act.put, List.setIfInBounds_toArray, List.set_cons_zero, List.set_cons_succ]
    refine H.sk (i := 9) (d := 14) hS ?_
    try simp only [Act.put, List.setIfInBounds_toArray, List.set_cons_zero, List.set_cons_succ]
    refine H.sk (i := 10) (d := 15) hS ?_
    try simp only [Act.put, List.setIfInBounds_toArray, List.set_cons_zero, List.set_cons_succ]
    refine H.tk (i := 11) (v := (Value.bool false)) (fun w _ => rfl) hS ?_
    try simp only [Act.put, List.setIfInBounds_toArray, List.set_cons_zero, List.set_cons_succ]
    refine H.tk (i := 12) (v := (Value.bool false)) (fun w _ => rfl) hS ?_
    try simp only [Act.put, List.setIfInBounds_toArray, List.set_cons_zero, List.set_cons_succ]
    refine H.sk (i := 13) (d := 18) hS ?_
    try simp only [Act.put, List.setIfInBounds_toArray, List.set_cons_zero, List.set_cons_succ]
    refine H.sk (i := 14) (d := 19) hS ?_
    try simp only [Act.put, List.setIfInBounds_toArray, List.set_cons_zero, List.set_cons_succ]
    refine H.sk (i := 15) (d := 20) hS ?_
    try simp only [Act.put, List.setIfInBounds_toArray, List.set_cons_zero, List.set_cons_succ]
    refine H.sk (i := 16) (d := 21) hS ?_
    try simp only [Act.put, List.setIfInBounds_toArray, List.set_cons_zero, List.set_cons_succ]
    refine H.sk (i := 17) (d := 22) hS ?_
    try simp only [Act.put, List.setIfInBounds_toArray, List.set_cons_zero, List.set_cons_succ]
    refine H.tk (i := 18) (v := (Value.bool false)) (fun w _ => rfl) hS ?_
    try simp only [Act.put, List.setIfInBounds_toArray, List.set_cons_zero, List.set_cons_succ]
    refine H.tk (i := 19) (v := (Value.bool false)) (fun w _ => rfl) hS ?_
    try simp only [Act.put, List.setIfInBounds_toArray, List.set_cons_zero, List.set_cons_succ]
    refine wpAnyH_done (by kernel_rfl) ?_ _
    go_wp2
    go_ret
    exact ⟨bool_eq (by rw [HE.out, HF.out]; simp), hS.2.2.2.2⟩
  · subst_vars
    have HF := Lib.hid hF
    clear hF
    refine H.tk (i := 0) (v := .agg (M.cells a)) ?h0 hS ?_
    case h0 => exact fun w hw => run_loadM (x := .tmp 2) rfl rfl (hw.1)
    try simp only [Act.put, List.setIfInBounds_toArray, List.set_cons_zero, List.set_cons_succ]
    refine H.tk (i := 2) (v := .agg (M.cells b)) ?h2 hS ?_
    case h2 => exact fun w hw => run_loadM (x := .tmp 3) rfl rfl (hw.2.1)
    try simp only [Act.put, List.setIfInBounds_toArray, List.set_cons_zero, List.set_cons_succ]
    refine wpAnyH_ready (rs := [1]) (by kernel_rfl) (by simp) ?_
    refine AllReadyH.cons rfl (fun K hK => ?_) AllReadyH.nil
    go_simp
    refine (PA.out _ hS).mono ?_
    rintro e w1 ⟨rfl, hS1⟩
    refine hK.out _ _ hS1 (fun _ => ?_)
    clear hK K hS
    have hS := hS1
    clear hS1
    try simp only [Act.put, List.setIfInBounds_toArray, List.set_cons_zero, List.set_cons_succ]
    refine wpAnyH_ready (rs := [3]) (by kernel_rfl) (by simp) ?_
    refine AllReadyH.cons rfl (fun K hK => ?_) AllReadyH.nil
    go_simp
    refine (PB.out _ hS).mono ?_
    rintro e w3 ⟨rfl, hS3⟩
    refine hK.out _ _ hS3 (fun _ => ?_)
    clear hK K hS
    have hS := hS3
    clear hS3
    try simp only [Act.put, List.setIfInBounds_toArray, List.set_cons_zero, List.set_cons_succ]
    refine H.tk (i := 4) (v := .bool true) ?h4 hS ?_
    case h4 => exact fun w _ => run_eqF (x := .tmp 6) (y := .tmp 8) rfl rfl rfl HF.out
    try simp only [Act.put, List.setIfInBounds_toArray, List.set_cons_zero, List.set_cons_succ]
    refine H.tk (i := 5) (v := (.bool true)) (fun w _ => rfl) hS ?_
    try simp only [Act.put, List.setIfInBounds_toArray, List.set_cons_zero, List.set_cons_succ]
    refine H.tk (i := 6) (v := ?v6) ?h6 hS ?_
    case h6 => (intro w hw; go_simp; first | done | (with_reducible rfl))
    try simp only [Act.put, List.setIfInBounds_toArray, List.set_cons_zero, List.set_cons_succ]
    refine H.tk (i := 7) (v := ?v7) ?h7 hS ?_
    case h7 => (intro w hw; have c := (hw.1).cs.c21; go_simp; first | done | (with_reducible rfl))
    try simp only [Act.put, List.setIfInBounds_toArray, List.set_cons_zero, List.set_cons_succ]
    refine H.tk (i := 8) (v := ?v8) ?h8 hS ?_
    case h8 => (intro w hw; go_simp; first | done | (with_reducible rfl))
    try simp only [Act.put, List.setIfInBounds_toArray, List.set_cons_zero, List.set_cons_succ]
    refine H.tk (i := 9) (v := ?v9) ?h9 hS ?_
    case h9 => (intro w hw; have c := (hw.2.1).cs.c21; go_simp; first | done | (with_reducible rfl))
    try simp only [Act.put, List.setIfInBounds_toArray, List.set_cons_zero, List.set_cons_succ]
    refine wpAnyH_ready (rs := [10]) (by kernel_rfl) (by simp) ?_
    refine AllReadyH.cons rfl (fun K hK => ?_) AllReadyH.nil
    go_simp
    refine (PD.out _ hS).mono ?_
    rintro e w10 ⟨rfl, hS10⟩
    refine hK.out _ _ hS10 (fun _ => ?_)
    clear hK K hS
    have hS := hS10
    clear hS10
    try simp only [Act.put, List.setIfInBounds_toArray, List.set_cons_zero, List.set_cons_succ]
    refine H.tk (i := 11) (v := (.bool false)) (fun w _ => rfl) hS ?_
    try simp only [Act.put, List.setIfInBounds_toArray, List.set_cons_zero, List.set_cons_succ]
    refine H.tk (i := 12) (v := (.bool false)) (fun w _ => rfl) hS ?_
    try simp only [Act.put, List.setIfInBounds_toArray, List.set_cons_zero, List.set_cons_succ]
    refine H.sk (i := 13) (d := 18) hS ?_
    try simp only [Act.put, List.setIfInBounds_toArray, List.set_cons_zero, List.set_cons_succ]
    refine H.sk (i := 14) (d := 19) hS ?_
    try simp only [Act.put, List.setIfInBounds_toArray, List.set_cons_zero, List.set_cons_succ]
    refine H.sk (i := 15) (d := 20) hS ?_
    try simp only [Act.put, List.setIfInBounds_toArray, List.set_cons_zero, List.set_cons_succ]
    refine H.sk (i := 16) (d := 21) hS ?_
    try simp only [Act.put, List.setIfInBounds_toArray, List.set_cons_zero, List.set_cons_succ]
    refine H.sk (i := 17) (d := 22) hS ?_
    try simp only [Act.put, List.setIfInBounds_toArray, List.set_cons_zero, List.set_cons_succ]
    refine H.tk (i := 18) (v := (Value.bool false)) (fun w _ => rfl) hS ?_
    try simp only [Act.put, List.setIfInBounds_toArray, List.set_cons_zero, List.set_cons_succ]
    refine H.tk (i := 19) (v := (Value.bool false)) (fun w _ => rfl) hS ?_
    try simp only [Act.put, List.setIfInBounds_toArray, List.set_cons_zero, List.set_cons_succ]
    refine wpAnyH_done (by kernel_rfl) ?_ _
    go_wp2
    go_ret
    exact ⟨bool_eq (by rw [HE.out, HF.out]; simp), hS.2.2.2.2⟩
  · subst_vars
    have HF := Lib.hid hF
    clear hF
    refine H.tk (i := 0) (v := .agg (M.cells a)) ?h0 hS ?_
    case h0 => exact fun w hw => run_loadM (x := .tmp 2) rfl rfl (hw.1)
    try simp only [Act.put, List.setIfInBounds_toArray, List.set_cons_zero, List.set_cons_succ]
    refine H.tk (i := 2) (v := .agg (M.cells b)) ?h2 hS ?_
    case h2 => exact fun w hw => run_loadM (x := .tmp 3) rfl rfl (hw.2.1)
    try simp only [Act.put, List.setIfInBounds_toArray, List.set_cons_zero, List.set_cons_succ]
    refine wpAnyH_ready (rs := [1]) (by kernel_rfl) (by simp) ?_
    refine AllReadyH.cons rfl (fun K hK => ?_) AllReadyH.nil
    go_simp
    refine (PA.out _ hS).mono ?_
    rintro e w1 ⟨rfl, hS1⟩
    refine hK.out _ _ hS1 (fun _ => ?_)
    clear hK K hS
    have hS := hS1
    clear hS1
    try simp only [Act.put, List.setIfInBounds_toArray, List.set_cons_zero, List.set_cons_succ]
    refine wpAnyH_ready (rs := [3]) (by kernel_rfl) (by simp) ?_
    refine AllReadyH.cons rfl (fun K hK => ?_) AllReadyH.nil
    go_simp
    refine (PB.out _ hS).mono ?_
    rintro e w3 ⟨rfl, hS3⟩
    refine hK.out _ _ hS3 (fun _ => ?_)
    clear hK K hS
    have hS := hS3
    clear hS3
    try simp only [Act.put, List.setIfInBounds_toArray, List.set_cons_zero, List.set_cons_succ]
    refine H.tk (i := 4) (v := .bool true) ?h4 hS ?_
    case h4 => exact fun w _ => run_eqF (x := .tmp 6) (y := .tmp 8) rfl rfl rfl HF.out
    try simp only [Act.put, List.setIfInBounds_toArray, List.set_cons_zero, List.set_cons_succ]
    refine H.tk (i := 5) (v := (.bool true)) (fun w _ => rfl) hS ?_
    try simp only [Act.put, List.setIfInBounds_toArray, List.set_cons_zero, List.set_cons_succ]
    refine H.tk (i := 6) (v := ?v6) ?h6 hS ?_
    case h6 => (intro w hw; go_simp; first | done | (with_reducible rfl))
    try simp only [Act.put, List.setIfInBounds_toArray, List.set_cons_zero, List.set_cons_succ]
    refine H.tk (i := 7) (v := ?v7) ?h7 hS ?_
    case h7 => (intro w hw; have c := (hw.1).cs.c21; go_simp; first | done | (with_reducible rfl))
    try simp only [Act.put, List.setIfInBounds_toArray, List.set_cons_zero, List.set_cons_succ]
    refine H.tk (i := 8) (v := ?v8) ?h8 hS ?_
    case h8 => (intro w hw; go_simp; first | done | (with_reducible rfl))
    try simp only [Act.put, List.setIfInBounds_toArray, List.set_cons_zero, List.set_cons_succ]
    refine H.tk (i := 9) (v := ?v9) ?h9 hS ?_
    case h9 => (intro w hw; have c := (hw.2.1).cs.c21; go_simp; first | done | (with_reducible rfl))
    try simp only [Act.put, List.setIfInBounds_toArray, List.set_cons_zero, List.set_cons_succ]
    refine wpAnyH_ready (rs := [10]) (by kernel_rfl) (by simp) ?_
    refine AllReadyH.cons rfl (fun K hK => ?_) AllReadyH.nil
    go_simp
    refine (PD.out _ hS).mono ?_
    rintro e w10 ⟨rfl, hS10⟩
    refine hK.out _ _ hS10 (fun _ => ?_)
    clear hK K hS
    have hS := hS10
    clear hS10
    try simp only [Act.put, List.setIfInBounds_toArray, List.set_cons_zero, List.set_cons_succ]
    refine H.tk (i := 11) (v := (.bool true)) (fun w _ => rfl) hS ?_
    try simp only [Act.put, List.setIfInBounds_toArray, List.set_cons_zero, List.set_cons_succ]
    refine H.tk (i := 12) (v := (.bool true)) (fun w _ => rfl) hS ?_
    try simp only [Act.put, List.setIfInBounds_toArray, List.set_cons_zero, List.set_cons_succ]
    refine H.tk (i := 13) (v := ?v13) ?h13 hS ?_
    case h13 => (intro w hw; go_simp; first | done | (with_reducible rfl))
    try simp only [Act.put, List.setIfInBounds_toArray, List.set_cons_zero, List.set_cons_succ]
    refine H.tk (i := 14) (v := ?v14) ?h14 hS ?_
    case h14 => (intro w hw; have c := (hw.1).cs.c24; go_simp; first | done | (with_reducible rfl))
    try simp only [Act.put, List.setIfInBounds_toArray, List.set_cons_zero, List.set_cons_succ]
    refine H.tk (i := 15) (v := ?v15) ?h15 hS ?_
    case h15 => (intro w hw; go_simp; first | done | (with_reducible rfl))
    try simp only [Act.put, List.setIfInBounds_toArray, List.set_cons_zero, List.set_cons_succ]
    refine H.tk (i := 16) (v := ?v16) ?h16 hS ?_
    case h16 => (intro w hw; have c := (hw.2.1).cs.c24; go_simp; first | done | (with_reducible rfl))
    try simp only [Act.put, List.setIfInBounds_toArray, List.set_cons_zero, List.set_cons_succ]
    refine wpAnyH_ready (rs := [17]) (by kernel_rfl) (by simp) ?_
    refine AllReadyH.cons rfl (fun K hK => ?_) AllReadyH.nil
    go_simp
    refine (PS.out _ hS).mono ?_
    rintro e w17 ⟨rfl, hS17⟩
    refine hK.out _ _ hS17 (fun _ => ?_)
    clear hK K hS
    have hS := hS17
    clear hS17
    try simp only [Act.put, List.setIfInBounds_toArray, List.set_cons_zero, List.set_cons_succ]
    refine H.tk (i := 18) (v := (.bool E)) (fun w _ => rfl) hS ?_
    try simp only [Act.put, List.setIfInBounds_toArray, List.set_cons_zero, List.set_cons_succ]
    refine H.tk (i := 19) (v := (.bool E)) (fun w _ => rfl) hS ?_
    try simp only [Act.put, List.setIfInBounds_toArray, List.set_cons_zero, List.set_cons_succ]
    refine wpAnyH_done (by kernel_rfl) ?_ _
    go_wp2
    go_ret
    exact ⟨bool_eq (by rw [HE.out, HF.out]; simp), hS.2.2.2.2⟩
end Go.Proofs.YtjhfpobjbijcpaaGreatDoor.SameP
