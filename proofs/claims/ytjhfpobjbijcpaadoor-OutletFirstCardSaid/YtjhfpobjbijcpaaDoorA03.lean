/-
  A region that draws its order, walked in the text's order: what reads is taken first, in whatever world that meets one condition.
  Whether two messages are the same: the program's answer. Condition: lists of at most 2^20 elements.
  A long condition 'x.f != y.f || x.g != y.g || ..' over two messages, walked over a frame that is a variable: no way is parted.
  The bytes of Subs, and whether they may be: the program's answers and the document's. Conditions: lists of at most 2^20 elements, of at most 2^40 bytes together.
-/
import Derived.Test.YtjhfpobjbijcpaaDoorA02
import Derived.Deep.RegionHeld3
import Derived.Deep.DeepCutAuto
import Derived.Deep.Cut
namespace Go.Proofs.YtjhfpobjbijcpaaDoor.Hs
open Go.ChangeShapes Go.WideShapes Go.ChangeAt Go.RowKit
open Go.Proofs.YtjhfpobjbijcpaaDoor.Ms
open Go.Proofs.YtjhfpobjbijcpaaDoor.Box
set_option linter.unusedVariables false
set_option maxRecDepth 100000

section
variable {P : Program} {ops : Array Oper} {Q : Exit → Act → World → Prop} {md : Region.Mode} {S : World → Prop}
theorem H.skip {i : Nat} {d : Tmp} {fuel : Nat} {listed : Array Bool} {a : Act} {w : World}
    (hd : (ops[i]?).map (fun o => (o.dst, Region.wanted o (yielded ops a.tmps))) = some (some d, false))
    (hs : Region.noSelect ops = true) (hf : Region.free md ops listed i = true) (hr : (Region.ready md ops listed).contains i = true)
    (hQ : ∀ c a w, Q (.panic c) (a.put (some d) undef) w → Q (.panic c) a w) (hS : S w)
    (h : wpAnyH P md ops Q S fuel (listed.setIfInBounds i true) (a.put (some d) undef) w) : wpAnyH P md ops Q S (fuel + 1) listed a w := by
  cases ho : ops[i]? with
  | none => rw [ho] at hd; cases hd
  | some o =>
    rw [ho] at hd
    simp only [Option.map_some, Option.some.injEq, Prod.mk.injEq] at hd
    obtain ⟨h1, h2⟩ := hd
    refine wpAnyH_take (v := undef) ho hs hf hr ?_ (.inr ⟨h2, rfl⟩) hS ?_
    · rw [h1]; exact hQ
    · rw [h1]; exact h
theorem H.take {i : Nat} {o : Oper} {d : Tmp} {v : Value} {fuel : Nat} {listed : Array Bool} {a : Act} {w : World}
    (ho : ops[i]? = some o) (hw : Region.wanted o (yielded ops a.tmps) = true) (hd : o.dst = some d)
    (hs : Region.noSelect ops = true) (hf : Region.free md ops listed i = true) (hr : (Region.ready md ops listed).contains i = true)
    (hQ : ∀ c a w, Q (.panic c) (a.put (some d) v) w → Q (.panic c) a w)
    (hy : ∀ w, S w → (execOp a.eval o).run P w = .ok (.value v) w) (hS : S w)
    (h : wpAnyH P md ops Q S fuel (listed.setIfInBounds i true) (a.put (some d) v) w) : wpAnyH P md ops Q S (fuel + 1) listed a w := by
  refine wpAnyH_take (v := v) ho hs hf hr ?_ (.inl ⟨hw, hy⟩) hS ?_
  · rw [hd]; exact hQ
  · rw [hd]; exact h
/-- H.take, its side conditions shown by themselves. -/
theorem H.tk {i : Nat} {o : Oper} {d : Tmp} {v : Value} {fuel : Nat} {listed : Array Bool} {a : Act} {w : World}
    (hy : ∀ w, S w → (execOp a.eval o).run P w = .ok (.value v) w) (hS : S w)
    (h : wpAnyH P md ops Q S fuel (listed.setIfInBounds i true) (a.put (some d) v) w)
    (ho : ops[i]? = some o := by simp only [List.getElem?_toArray, List.getElem?_cons_succ, List.getElem?_cons_zero]; rfl)
    (hw : Region.wanted o (yielded ops a.tmps) = true := by kernel_rfl) (hd : o.dst = some d := by rfl)
    (hs : Region.noSelect ops = true := by kernel_rfl) (hf : Region.free md ops listed i = true := by kernel_rfl) (hr : (Region.ready md ops listed).contains i = true := by kernel_rfl)
    (hQ : ∀ c a w, Q (.panic c) (a.put (some d) v) w → Q (.panic c) a w := by exact fun _ _ _ h => h) : wpAnyH P md ops Q S (fuel + 1) listed a w :=
  H.take ho hw hd hs hf hr hQ hy hS h
theorem H.sk {i : Nat} {d : Tmp} {fuel : Nat} {listed : Array Bool} {a : Act} {w : World} (hS : S w)
    (h : wpAnyH P md ops Q S fuel (listed.setIfInBounds i true) (a.put (some d) undef) w)
    (hd : (ops[i]?).map (fun o => (o.dst, Region.wanted o (yielded ops a.tmps))) = some (some d, false) := by kernel_rfl)
    (hs : Region.noSelect ops = true := by kernel_rfl) (hf : Region.free md ops listed i = true := by kernel_rfl) (hr : (Region.ready md ops listed).contains i = true := by kernel_rfl)
    (hQ : ∀ c a w, Q (.panic c) (a.put (some d) undef) w → Q (.panic c) a w := by exact fun _ _ _ h => h) : wpAnyH P md ops Q S (fuel + 1) listed a w :=
  H.skip hd hs hf hr hQ hS h
end

theorem run_loadM {o : Oper} {ρ : Operand → Value} {x : Operand} {b : Nat} {m : M} {w : World} (ho : o.op = .load 34 x) (hx : ρ x = .pointer (some ⟨b, 0, none⟩)) (hb : Bx w b m) :
    (execOp ρ o).run Tryd.prog w = .ok (.value (.agg m.cells)) w := by
  unfold execOp
  simp only [ho, hx, Instr.loadAt, Instr.sureAddr, Sem.run_bind, Sem.run_pure, Result.andThen_ok, run_loadVar_row w b 34 34 m.cells (0, 0) _ hb Tryd.underlying34 rfl infoM]

theorem run_eqF {o : Oper} {ρ : Operand → Value} {x y : Operand} {a b : M} {w : World} {r : Bool} (ho : o.op = .binOp .eql 87 x y 87) (hx : ρ x = .agg a.flat) (hy : ρ y = .agg b.flat) (hr : M.flatE a b = r) :
    (execOp ρ o).run Tryd.prog w = .ok (.value (.bool r)) w := by
  unfold execOp
  subst hr
  simp only [ho, hx, hy, Sem.run_bind, run_guardFlat, Result.andThen_ok, run_eqlFlat, Sem.run_pure]

/-- what a call leaves, if it leaves the old blocks alone -/
theorem heldP {P : Program} {f : Nat} {args : Array Value} {W : World} {v : Ending} (S : World → Prop) (hm : ∀ W w1, S W → Below W.heap.size W w1 → S w1)
    (h : Calls P f args W fun e w' => e = v ∧ Below W.heap.size W w') (hS : S W) : Calls P f args W fun e w' => e = v ∧ S w' :=
  h.mono fun _ _ ⟨he, hb⟩ => ⟨he, hm _ _ hS hb⟩
end Go.Proofs.YtjhfpobjbijcpaaDoor.Hs
namespace Go.Proofs.YtjhfpobjbijcpaaDoor.SameP
open Go.ChangeShapes Go.WideShapes Go.ChangeAt Go.RowKit
open Go.Proofs.YtjhfpobjbijcpaaDoor.Ms
open Go.Proofs.YtjhfpobjbijcpaaDoor.Box
open Go.Proofs.YtjhfpobjbijcpaaDoor.Eq
open Go.Proofs.YtjhfpobjbijcpaaDoor.Same
open Go.Proofs.YtjhfpobjbijcpaaDoor.Hs
set_option linter.unusedVariables false
set_option maxRecDepth 100000

theorem start (w : World) (m m' : M) : Bx ((w.alloc (.cells m.cells 34)).alloc (.cells m'.cells 34)) w.heap.size m ∧ Bx ((w.alloc (.cells m.cells 34)).alloc (.cells m'.cells 34)) (w.heap.size + 1) m' ∧ Below w.heap.size w ((w.alloc (.cells m.cells 34)).alloc (.cells m'.cells 34)) :=
  ⟨(Bx.new w m).old _, by have := Bx.new (w.alloc (.cells m.cells 34)) m'; rwa [alloc_size] at this, balloc (balloc (Below.refl _ _) _) _⟩

/-- What stays in a region over two messages. -/
def S2 (w : World) (a b : M) (W : World) : Prop := Bx W w.heap.size a ∧ Bx W (w.heap.size + 1) b ∧ a.In W ∧ b.In W ∧ Below w.heap.size w W
theorem S2.keep {w : World} {a b : M} (W w1 : World) (h : S2 w a b W) (hb : Below W.heap.size W w1) : S2 w a b w1 := ⟨h.1.below hb, h.2.1.below hb, h.2.2.1.below hb, h.2.2.2.1.below hb, bcall h.2.2.2.2 hb⟩

set_option maxHeartbeats 1600000 in
set_option maxRecDepth 100000 in
theorem same_any (a b : M) (w : World) (ha : a.In w) (hb : b.In w) :
    Calls Tryd.prog 40 #[.agg a.cells, .agg b.cells] w fun e w' => e = .returned (.bool (M.same a b)) ∧ Below w.heap.size w w' := by
  have PA := Lib.hid (fun W (h : S2 w a b W) => heldP (S2 w a b) S2.keep (flatten_any a W) h)
  have PB := Lib.hid (fun W (h : S2 w a b W) => heldP (S2 w a b) S2.keep (flatten_any b W) h)
  have PD := Lib.hid (fun W (h : S2 w a b W) => heldP (S2 w a b) S2.keep (dests_any a.la b.la a.lc b.lc a.ll b.ll W h.2.2.1.d h.2.2.2.1.d h.2.2.1.dl h.2.2.2.1.dl) h)
  have PS := Lib.hid (fun W (h : S2 w a b W) => heldP (S2 w a b) S2.keep (subs_any a.sa b.sa a.sc b.sc a.sl b.sl W h.2.2.1.s h.2.2.2.1.s h.2.2.1.sl h.2.2.2.1.sl) h)
  have HE := Lib.hid (show M.same a b = (M.flatE a b && (decide (a.ll = b.ll) && decide (a.sl = b.sl))) from rfl)
  obtain ⟨ba, bb, bel⟩ := start w a b
  have h0 : S2 w a b ((w.alloc (.cells a.cells 34)).alloc (.cells b.cells 34)) := ⟨ba, bb, ha.below (balloc (balloc (Below.refl _ _) _) _), hb.below (balloc (balloc (Below.refl _ _) _) _), bel⟩
  clear ba bb bel ha hb
  generalize decide (a.ll = b.ll) = D at *
  generalize decide (a.sl = b.sl) = E at *
  go_enter Tryd.func40, Tryd.ntmps40
  go_upto_region 1 with fail
  generalize (w.alloc (.cells a.cells 34)).alloc (.cells b.cells 34) = V at *
  have hV : S2 w a b V.drew := S2.keep V _ h0 (Below.refl _ _).drew
  clear h0
  refine wp_region_held_drew (S := S2 w a b) (by kernel_rfl) hV (fun hS => ?_)
  clear hV
  rcases (show M.flatE a b = false ∨ (M.flatE a b = true ∧ D = false) ∨ (M.flatE a b = true ∧ D = true) by cases M.flatE a b <;> cases D <;> simp) with hF | ⟨hF, hD⟩ | ⟨hF, hD⟩
  · subst_vars
    have HF := Lib.hid hF
    clear hF
    refine H.tk (i := 0) (v := .agg (M.cells a)) ?h0 hS ?_
    case h0 => exact fun w hw => run_loadM (x := .tmp 2) rfl rfl (hw.1)
    try simp only [Act.put, List.setIfInBounds_toArray, List.set_cons_zero, List.set_cons_succ]
    refine H.tk (i := 2) (v := .agg (M.cells b)) ?h2 hS ?_
    case h2 => exact fun w hw => run_loadM (x := .tmp 3) rfl rfl (hw.2.1)
    try simp only [Act.put, List.setIfInBounds_toArray, List.set_cons_zero, List.set_cons_succ]
    refine wpAnyH_ready (rs := [1]) (by kernel_rfl) (by simp) ?_
    refine AllReadyH.cons rfl (fun K hK => ?_) AllReadyH.nil
    go_simp
    refine (PA.out _ hS).mono ?_
    rintro e w1 ⟨rfl, hS1⟩
    refine hK.out _ _ hS1 (fun _ => ?_)
    clear hK K hS
    have hS := hS1
    clear hS1
    try simp only [Act.put, List.setIfInBounds_toArray, List.set_cons_zero, List.set_cons_succ]
    refine wpAnyH_ready (rs := [3]) (by kernel_rfl) (by simp) ?_
    refine AllReadyH.cons rfl (fun K hK => ?_) AllReadyH.nil
    go_simp
    refine (PB.out _ hS).mono ?_
    rintro e w3 ⟨rfl, hS3⟩
    refine hK.out _ _ hS3 (fun _ => ?_)
    clear hK K hS
    have hS := hS3
    clear hS3
    try simp only [Act.put, List.setIfInBounds_toArray, List.set_cons_zero, List.set_cons_succ]
    refine H.tk (i := 4) (v := .bool false) ?h4 hS ?_
    case h4 => exact fun w _ => run_eqF (x := .tmp 6) (y := .tmp 8) rfl rfl rfl HF.out
    try simp only [Act.put, List.setIfInBounds_toArray, List.set_cons_zero, List.set_cons_succ]
    refine H.tk (i := 5) (v := (.bool false)) (fun w _ => rfl) hS ?_
    try simp only [Act.put, List.setIfInBounds_toArray, List.set_cons_zero, List.set_cons_succ]
    refine H.sk (i := 6) (d := 11) hS ?_
    try simp only [Act.put, List.setIfInBounds_toArray, List.set_cons_zero, List.set_cons_succ]
    refine H.sk (i := 7) (d := 12) hS ?_
    try simp only [Act.put, List.setIfInBounds_toArray, List.set_cons_zero, List.set_cons_succ]
    refine H.sk (i := 8) (d := 13) hS ?_
    try simp only [Act.put, List.setIfInBounds_toArray, List.set_cons_zero, List.set_cons_succ]
    refine H.sk (i := 9) (d := 14) hS ?_
    try simp only [Act.put, List.setIfInBounds_toArray, List.set_cons_zero, List.set_cons_succ]
    refine H.sk (i := 10) (d := 15) hS ?_
    try simp only [Act.put, List.setIfInBounds_toArray, List.set_cons_zero, List.set_cons_succ]
    refine H.tk (i := 11) (v := (Value.bool false)) (fun w _ => rfl) hS ?_
    try simp only [Act.put, List.setIfInBounds_toArray, List.set_cons_zero, List.set_cons_succ]
    refine H.tk (i := 12) (v := (Value.bool false)) (fun w _ => rfl) hS ?_
    try simp only [Act.put, List.setIfInBounds_toArray, List.set_cons_zero, List.set_cons_succ]
    refine H.sk (i := 13) (d := 18) hS ?_
    try simp only [Act.put, List.setIfInBounds_toArray, List.set_cons_zero, List.set_cons_succ]
    refine H.sk (i := 14) (d := 19) hS ?_
    try simp only [Act.put, List.setIfInBounds_toArray, List.set_cons_zero, List.set_cons_succ]
    refine H.sk (i := 15) (d := 20) hS ?_
    try simp only [Act.put, List.setIfInBounds_toArray, List.set_cons_zero, List.set_cons_succ]
    refine H.sk (i := 16) (d := 21) hS ?_
    try simp only [Act.put, List.setIfInBounds_toArray, List.set_cons_zero, List.set_cons_succ]
    refine H.sk (i := 17) (d := 22) hS ?_
    try simp only [Act.put, List.setIfInBounds_toArray, List.set_cons_zero, List.set_cons_succ]
    refine H.tk (i := 18) (v := (Value.bool false)) (fun w _ => rfl) hS ?_
    try simp only [Act.put, List.setIfInBounds_toArray, List.set_cons_zero, List.set_cons_succ]
    refine H.tk (i := 19) (v := (Value.bool false)) (fun w _ => rfl) hS ?_
    try simp only [Act.put, List.setIfInBounds_toArray, List.set_cons_zero, List.set_cons_succ]
    refine wpAnyH_done (by kernel_rfl) ?_ _
    go_wp2
    go_ret
    exact ⟨bool_eq (by rw [HE.out, HF.out]; simp), hS.2.2.2.2⟩
  · subst_vars
    have HF := Lib.hid hF
    clear hF
    refine H.tk (i := 0) (v := .agg (M.cells a)) ?h0 hS ?_
    case h0 => exact fun w hw => run_loadM (x := .tmp 2) rfl rfl (hw.1)
    try simp only [Act.put, List.setIfInBounds_toArray, List.set_cons_zero, List.set_cons_succ]
    refine H.tk (i := 2) (v := .agg (M.cells b)) ?h2 hS ?_
    case h2 => exact fun w hw => run_loadM (x := .tmp 3) rfl rfl (hw.2.1)
    try simp only [Act.put, List.setIfInBounds_toArray, List.set_cons_zero, List.set_cons_succ]
    refine wpAnyH_ready (rs := [1]) (by kernel_rfl) (by simp) ?_
    refine AllReadyH.cons rfl (fun K hK => ?_) AllReadyH.nil
    go_simp
    refine (PA.out _ hS).mono ?_
    rintro e w1 ⟨rfl, hS1⟩
    refine hK.out _ _ hS1 (fun _ => ?_)
    clear hK K hS
    have hS := hS1
    clear hS1
    try simp only [Act.put, List.setIfInBounds_toArray, List.set_cons_zero, List.set_cons_succ]
    refine wpAnyH_ready (rs := [3]) (by kernel_rfl) (by simp) ?_
    refine AllReadyH.cons rfl (fun K hK => ?_) AllReadyH.nil
    go_simp
    refine (PB.out _ hS).mono ?_
    rintro e w3 ⟨rfl, hS3⟩
    refine hK.out _ _ hS3 (fun _ => ?_)
    clear hK K hS
    have hS := hS3
    clear hS3
    try simp only [Act.put, List.setIfInBounds_toArray, List.set_cons_zero, List.set_cons_succ]
    refine H.tk (i := 4) (v := .bool true) ?h4 hS ?_
    case h4 => exact fun w _ => run_eqF (x := .tmp 6) (y := .tmp 8) rfl rfl rfl HF.out
    try simp only [Act.put, List.setIfInBounds_toArray, List.set_cons_zero, List.set_cons_succ]
    refine H.tk (i := 5) (v := (.bool true)) (fun w _ => rfl) hS ?_
    try simp only [Act.put, List.setIfInBounds_toArray, List.set_cons_zero, List.set_cons_succ]
    refine H.tk (i := 6) (v := ?v6) ?h6 hS ?_
    case h6 => (intro w hw; go_simp; first | done | (with_reducible rfl))
    try simp only [Act.put, List.setIfInBounds_toArray, List.set_cons_zero, List.set_cons_succ]
    refine H.tk (i := 7) (v := ?v7) ?h7 hS ?_
    case h7 => (intro w hw; have c := (hw.1).cs.c21; go_simp; first | done | (with_reducible rfl))
    try simp only [Act.put, List.setIfInBounds_toArray, List.set_cons_zero, List.set_cons_succ]
    refine H.tk (i := 8) (v := ?v8) ?h8 hS ?_
    case h8 => (intro w hw; go_simp; first | done | (with_reducible rfl))
    try simp only [Act.put, List.setIfInBounds_toArray, List.set_cons_zero, List.set_cons_succ]
    refine H.tk (i := 9) (v := ?v9) ?h9 hS ?_
    case h9 => (intro w hw; have c := (hw.2.1).cs.c21; go_simp; first | done | (with_reducible rfl))
    try simp only [Act.put, List.setIfInBounds_toArray, List.set_cons_zero, List.set_cons_succ]
    refine wpAnyH_ready (rs := [10]) (by kernel_rfl) (by simp) ?_
    refine AllReadyH.cons rfl (fun K hK => ?_) AllReadyH.nil
    go_simp
    refine (PD.out _ hS).mono ?_
    rintro e w10 ⟨rfl, hS10⟩
    refine hK.out _ _ hS10 (fun _ => ?_)
    clear hK K hS
    have hS := hS10
    clear hS10
    try simp only [Act.put, List.setIfInBounds_toArray, List.set_cons_zero, List.set_cons_succ]
    refine H.tk (i := 11) (v := (.bool false)) (fun w _ => rfl) hS ?_
    try simp only [Act.put, List.setIfInBounds_toArray, List.set_cons_zero, List.set_cons_succ]
    refine H.tk (i := 12) (v := (.bool false)) (fun w _ => rfl) hS ?_
    try simp only [Act.put, List.setIfInBounds_toArray, List.set_cons_zero, List.set_cons_succ]
    refine H.sk (i := 13) (d := 18) hS ?_
    try simp only [Act.put, List.setIfInBounds_toArray, List.set_cons_zero, List.set_cons_succ]
    refine H.sk (i := 14) (d := 19) hS ?_
    try simp only [Act.put, List.setIfInBounds_toArray, List.set_cons_zero, List.set_cons_succ]
    refine H.sk (i := 15) (d := 20) hS ?_
    try simp only [Act.put, List.setIfInBounds_toArray, List.set_cons_zero, List.set_cons_succ]
    refine H.sk (i := 16) (d := 21) hS ?_
    try simp only [Act.put, List.setIfInBounds_toArray, List.set_cons_zero, List.set_cons_succ]
    refine H.sk (i := 17) (d := 22) hS ?_
    try simp only [Act.put, List.setIfInBounds_toArray, List.set_cons_zero, List.set_cons_succ]
    refine H.tk (i := 18) (v := (Value.bool false)) (fun w _ => rfl) hS ?_
    try simp only [Act.put, List.setIfInBounds_toArray, List.set_cons_zero, List.set_cons_succ]
    refine H.tk (i := 19) (v := (Value.bool false)) (fun w _ => rfl) hS ?_
    try simp only [Act.put, List.setIfInBounds_toArray, List.set_cons_zero, List.set_cons_succ]
    refine wpAnyH_done (by kernel_rfl) ?_ _
    go_wp2
    go_ret
    exact ⟨bool_eq (by rw [HE.out, HF.out]; simp), hS.2.2.2.2⟩
  · subst_vars
    have HF := Lib.hid hF
    clear hF
    refine H.tk (i := 0) (v := .agg (M.cells a)) ?h0 hS ?_
    case h0 => exact fun w hw => run_loadM (x := .tmp 2) rfl rfl (hw.1)
    try simp only [Act.put, List.setIfInBounds_toArray, List.set_cons_zero, List.set_cons_succ]
    refine H.tk (i := 2) (v := .agg (M.cells b)) ?h2 hS ?_
    case h2 => exact fun w hw => run_loadM (x := .tmp 3) rfl rfl (hw.2.1)
    try simp only [Act.put, List.setIfInBounds_toArray, List.set_cons_zero, List.set_cons_succ]
    refine wpAnyH_ready (rs := [1]) (by kernel_rfl) (by simp) ?_
    refine AllReadyH.cons rfl (fun K hK => ?_) AllReadyH.nil
    go_simp
    refine (PA.out _ hS).mono ?_
    rintro e w1 ⟨rfl, hS1⟩
    refine hK.out _ _ hS1 (fun _ => ?_)
    clear hK K hS
    have hS := hS1
    clear hS1
    try simp only [Act.put, List.setIfInBounds_toArray, List.set_cons_zero, List.set_cons_succ]
    refine wpAnyH_ready (rs := [3]) (by kernel_rfl) (by simp) ?_
    refine AllReadyH.cons rfl (fun K hK => ?_) AllReadyH.nil
    go_simp
    refine (PB.out _ hS).mono ?_
    rintro e w3 ⟨rfl, hS3⟩
    refine hK.out _ _ hS3 (fun _ => ?_)
    clear hK K hS
    have hS := hS3
    clear hS3
    try simp only [Act.put, List.setIfInBounds_toArray, List.set_cons_zero, List.set_cons_succ]
    refine H.tk (i := 4) (v := .bool true) ?h4 hS ?_
    case h4 => exact fun w _ => run_eqF (x := .tmp 6) (y := .tmp 8) rfl rfl rfl HF.out
    try simp only [Act.put, List.setIfInBounds_toArray, List.set_cons_zero, List.set_cons_succ]
    refine H.tk (i := 5) (v := (.bool true)) (fun w _ => rfl) hS ?_
    try simp only [Act.put, List.setIfInBounds_toArray, List.set_cons_zero, List.set_cons_succ]
    refine H.tk (i := 6) (v := ?v6) ?h6 hS ?_
    case h6 => (intro w hw; go_simp; first | done | (with_reducible rfl))
    try simp only [Act.put, List.setIfInBounds_toArray, List.set_cons_zero, List.set_cons_succ]
    refine H.tk (i := 7) (v := ?v7) ?h7 hS ?_
    case h7 => (intro w hw; have c := (hw.1).cs.c21; go_simp; first | done | (with_reducible rfl))
    try simp only [Act.put, List.setIfInBounds_toArray, List.set_cons_zero, List.set_cons_succ]
    refine H.tk (i := 8) (v := ?v8) ?h8 hS ?_
    case h8 => (intro w hw; go_simp; first | done | (with_reducible rfl))
    try simp only [Act.put, List.setIfInBounds_toArray, List.set_cons_zero, List.set_cons_succ]
    refine H.tk (i := 9) (v := ?v9) ?h9 hS ?_
    case h9 => (intro w hw; have c := (hw.2.1).cs.c21; go_simp; first | done | (with_reducible rfl))
    try simp only [Act.put, List.setIfInBounds_toArray, List.set_cons_zero, List.set_cons_succ]
    refine wpAnyH_ready (rs := [10]) (by kernel_rfl) (by simp) ?_
    refine AllReadyH.cons rfl (fun K hK => ?_) AllReadyH.nil
    go_simp
    refine (PD.out _ hS).mono ?_
    rintro e w10 ⟨rfl, hS10⟩
    refine hK.out _ _ hS10 (fun _ => ?_)
    clear hK K hS
    have hS := hS10
    clear hS10
    try simp only [Act.put, List.setIfInBounds_toArray, List.set_cons_zero, List.set_cons_succ]
    refine H.tk (i := 11) (v := (.bool true)) (fun w _ => rfl) hS ?_
    try simp only [Act.put, List.setIfInBounds_toArray, List.set_cons_zero, List.set_cons_succ]
    refine H.tk (i := 12) (v := (.bool true)) (fun w _ => rfl) hS ?_
    try simp only [Act.put, List.setIfInBounds_toArray, List.set_cons_zero, List.set_cons_succ]
    refine H.tk (i := 13) (v := ?v13) ?h13 hS ?_
    case h13 => (intro w hw; go_simp; first | done | (with_reducible rfl))
    try simp only [Act.put, List.setIfInBounds_toArray, List.set_cons_zero, List.set_cons_succ]
    refine H.tk (i := 14) (v := ?v14) ?h14 hS ?_
    case h14 => (intro w hw; have c := (hw.1).cs.c24; go_simp; first | done | (with_reducible rfl))
    try simp only [Act.put, List.setIfInBounds_toArray, List.set_cons_zero, List.set_cons_succ]
    refine H.tk (i := 15) (v := ?v15) ?h15 hS ?_
    case h15 => (intro w hw; go_simp; first | done | (with_reducible rfl))
    try simp only [Act.put, List.setIfInBounds_toArray, List.set_cons_zero, List.set_cons_succ]
    refine H.tk (i := 16) (v := ?v16) ?h16 hS ?_
    case h16 => (intro w hw; have c := (hw.2.1).cs.c24; go_simp; first | done | (with_reducible rfl))
    try simp only [Act.put, List.setIfInBounds_toArray, List.set_cons_zero, List.set_cons_succ]
    refine wpAnyH_ready (rs := [17]) (by kernel_rfl) (by simp) ?_
    refine AllReadyH.cons rfl (fun K hK => ?_) AllReadyH.nil
    go_simp
    refine (PS.out _ hS).mono ?_
    rintro e w17 ⟨rfl, hS17⟩
    refine hK.out _ _ hS17 (fun _ => ?_)
    clear hK K hS
    have hS := hS17
    clear hS17
    try simp only [Act.put, List.setIfInBounds_toArray, List.set_cons_zero, List.set_cons_succ]
    refine H.tk (i := 18) (v := (.bool E)) (fun w _ => rfl) hS ?_
    try simp only [Act.put, List.setIfInBounds_toArray, List.set_cons_zero, List.set_cons_succ]
    refine H.tk (i := 19) (v := (.bool E)) (fun w _ => rfl) hS ?_
    try simp only [Act.put, List.setIfInBounds_toArray, List.set_cons_zero, List.set_cons_succ]
    refine wpAnyH_done (by kernel_rfl) ?_ _
    go_wp2
    go_ret
    exact ⟨bool_eq (by rw [HE.out, HF.out]; simp), hS.2.2.2.2⟩
end Go.Proofs.YtjhfpobjbijcpaaDoor.SameP
namespace Go.Proofs.YtjhfpobjbijcpaaDoor.Or
open Go.ChangeShapes Go.WideShapes Go.ChangeAt Go.RowKit
open Go.Proofs.YtjhfpobjbijcpaaDoor.Ms
open Go.Proofs.YtjhfpobjbijcpaaDoor.Box
set_option linter.unusedVariables false
set_option maxRecDepth 100000

section
variable {P : Program} {ops : Array Oper} {Q : Exit → Act → World → Prop} {A : Act} {w : World} {rest : List Oper} {o : Oper}

theorem st_yes {d : Nat} {v : Value} (hw : Region.wanted o (yielded ops A.tmps) = true) (hd : o.dst = some d) (hy : (execOp A.eval o).run P w = .ok (.value v) w)
    (h : wpList P ops Q rest (A.put (some d) v) w) : wpList P ops Q (o :: rest) A w :=
  wpList_step fun K hK => by
    rw [if_pos hw]
    unfold Oper.wp
    rw [hy]
    simp only [Oper.upon, hd]
    exact hK _ _ h
end

section
variable {ops : Array Oper} {Q : Exit → Act → World → Prop} {A : Act} {w : World} {rest : List Oper}

end
end Go.Proofs.YtjhfpobjbijcpaaDoor.Or
namespace Go.Proofs.YtjhfpobjbijcpaaDoor.Cnt
open Go.ChangeShapes Go.WideShapes Go.ChangeAt Go.RowKit
open Go.Proofs.YtjhfpobjbijcpaaDoor.Ms
open Go.Proofs.YtjhfpobjbijcpaaDoor.Box
open Go.Proofs.YtjhfpobjbijcpaaDoor.Same
set_option linter.unusedVariables false
set_option maxRecDepth 100000

/-- The bytes of Subs. -/
def bytesN (l : List El) : Nat := (l.map fun x => 2 + x.1.size).sum
theorem bytes_take (l : List El) (k : Nat) (h : k < l.length) : bytesN (l.take (k + 1)) = bytesN (l.take k) + (2 + l[k].1.size) := by
  unfold bytesN
  rw [List.take_succ_eq_append_getElem h, List.map_append, List.sum_append]
  simp only [List.map_cons, List.map_nil, List.sum_cons, List.sum_nil, Nat.add_zero]
theorem bytes_le (l : List El) (k : Nat) : bytesN (l.take k) ≤ bytesN l := by
  conv => rhs; rw [← List.take_append_drop k l]
  unfold bytesN
  rw [List.map_append, List.sum_append]
  omega
theorem int_eq {k : IntKind} {a b : Int} (h : a = b) : Ending.returned (.int k a) = .returned (.int k b) := by rw [h]

set_option maxHeartbeats 1600000 in
theorem bytes_any (a : Option Addr) (c : Nat) (l : List El) (w : World) (hl : SRow w a l) (ln : l.length ≤ 1048576) (lb : bytesN l ≤ 1099511627776) :
    Calls Tryd.prog 48 #[.slice a l.length c] w fun e w' => e = .returned (.int .i64 (bytesN l : Nat)) ∧ Below w.heap.size w w' := by
  have LB := Lib.hid lb
  clear lb
  go_enter Tryd.func48, Tryd.ntmps48
  go_wp2
  go_loopw [3, 8] (fun n i wr => ∃ k : Nat, k ≤ l.length ∧ i = .int .i64 k ∧ n = .int .i64 (bytesN (l.take k) : Nat) ∧ Hid (Below w.heap.size w wr)) (fun _ i _ => l.length - (intOf i).toNat)
  case atStart => exact ⟨0, Nat.zero_le _, rfl, rfl, Lib.hid (Below.refl _ _)⟩
  case round =>
    obtain ⟨k, hk, rfl, rfl, HB⟩ := hrel
    by_cases hlt : k < l.length
    · obtain ⟨p, rfl, hp, c0, c1⟩ := (hl.below HB.out) k hlt
      have HT := Lib.hid (bytes_take l k hlt)
      have HM := Lib.hid (bytes_le l (k + 1))
      have hs : l[k].1.size ≤ 1099511627776 ∧ bytesN (l.take k) ≤ 1099511627776 := by have := HT.out; have := HM.out; have := LB.out; omega
      obtain ⟨hs, hs2⟩ := hs
      clear hl
      rw [add_one] at c1
      generalize l[k] = u at *
      generalize hq : bytesN (l.take k) = q at *
      clear hq
      go_wp2
      go_roundw
      case rel => exact ⟨k + 1, hlt, by go_num, by rw [HT.out]; congr 1, Lib.hid ((HB.out.alloc HB.out.size _))⟩
      case measure => simp [intOf]; omega
    · obtain rfl : k = l.length := by omega
      go_wp2
      go_ret
      exact ⟨int_eq (by rw [List.take_length]), HB.out⟩
/-- May the Subs be? -/
def mayB (l : List El) (lo hi : Int) : Bool := l.all fun x => decide (lo ≤ x.2) && (decide (x.2 ≤ hi) && decide (x.1.size ≤ 255))
theorem may_take (l : List El) (lo hi : Int) (k : Nat) (h : k < l.length) : mayB (l.take (k + 1)) lo hi = (mayB (l.take k) lo hi && (decide (lo ≤ l[k].2) && (decide (l[k].2 ≤ hi) && decide (l[k].1.size ≤ 255)))) := by
  unfold mayB
  rw [List.take_succ_eq_append_getElem h, List.all_append]
  simp
theorem may_not (l : List El) (lo hi : Int) (k : Nat) (h : k < l.length) (hn : (decide (lo ≤ l[k].2) && (decide (l[k].2 ≤ hi) && decide (l[k].1.size ≤ 255))) = false) : mayB l lo hi = false := by
  unfold mayB
  rw [List.all_eq_false]
  exact ⟨l[k], List.getElem_mem h, by rw [hn]; simp⟩

set_option maxHeartbeats 1600000 in
theorem may_any (a : Option Addr) (c : Nat) (l : List El) (lo hi : Int) (w : World) (hl : SRow w a l) (ln : l.length ≤ 1048576) (lb : ∀ x ∈ l, x.1.size ≤ 1099511627776) :
    Calls Tryd.prog 47 #[.slice a l.length c, .int .i64 lo, .int .i64 hi] w fun e w' => e = .returned (.bool (mayB l lo hi)) ∧ Below w.heap.size w w' := by
  have LB := Lib.hid lb
  clear lb
  go_enter Tryd.func47, Tryd.ntmps47
  go_wp2
  go_loopw [11] (fun i wr => ∃ k : Nat, k ≤ l.length ∧ i = .int .i64 k ∧ Hid (mayB (l.take k) lo hi = true) ∧ Hid (Below w.heap.size w wr)) (fun i _ => l.length - (intOf i).toNat)
  case atStart => exact ⟨0, Nat.zero_le _, rfl, Lib.hid rfl, Lib.hid (Below.refl _ _)⟩
  case round =>
    obtain ⟨k, hk, rfl, HN, HB⟩ := hrel
    by_cases hlt : k < l.length
    · obtain ⟨p, rfl, hp, c0, c1⟩ := (hl.below HB.out) k hlt
      have HT := Lib.hid (may_take l lo hi k hlt)
      have HF := Lib.hid (may_not l lo hi k hlt)
      have hs := LB.out _ (List.getElem_mem hlt)
      have HBA := Lib.hid (fun o => HB.out.alloc HB.out.size o)
      clear hl
      rw [add_one] at c1
      generalize l[k] = u at *
      obtain ⟨s, n⟩ := u
      by_cases h1 : n < lo
      · go_wp2
        go_ret
        exact ⟨bool_eq (by symm; apply HF.out; simp; omega), HBA.out _⟩
      · by_cases h2 : hi < n
        · go_wp2
          go_ret
          exact ⟨bool_eq (by symm; apply HF.out; simp; omega), HBA.out _⟩
        · by_cases h3 : 255 < s.size
          · go_wp2
            go_ret
            exact ⟨bool_eq (by symm; apply HF.out; simp; omega), HBA.out _⟩
          · go_wp2
            go_roundw
            case rel => exact ⟨k + 1, hlt, by go_num, Lib.hid (by rw [HT.out, HN.out]; simp; omega), Lib.hid (HBA.out _)⟩
            case measure => simp [intOf]; omega
    · obtain rfl : k = l.length := by omega
      go_wp2
      go_ret
      exact ⟨bool_eq (by have := HN.out; rw [List.take_length] at this; exact this.symm), HB.out⟩

end Go.Proofs.YtjhfpobjbijcpaaDoor.Cnt
