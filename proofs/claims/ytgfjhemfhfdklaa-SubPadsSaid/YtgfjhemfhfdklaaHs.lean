/-
  A region that draws its order, walked in the text's order: what reads is taken first, in whatever world that meets one condition.
-/
import Derived.Test.YtgfjhemfhfdklaaBox
import Derived.Deep.RegionHeld3
import Derived.Deep.DeepCutAuto
import Derived.Deep.Cut
namespace Go.Proofs.Ytgfjhemfhfdklaa.Hs
open Go.ChangeShapes Go.WideShapes Go.ChangeAt Go.RowKit
open Go.Proofs.Ytgfjhemfhfdklaa.Ms
open Go.Proofs.Ytgfjhemfhfdklaa.Box
set_option linter.unusedVariables false
set_option maxRecDepth 100000

section
variable {P : Program} {ops : Array Oper} {Q : Exit → Act → World → Prop} {md : Region.Mode} {S : World → Prop}
theorem H.skip {i : Nat} {d : Tmp} {fuel : Nat} {listed : Array Bool} {a : Act} {w : World}
    (hd : (ops[i]?).map (fun o => (o.dst, Region.wanted o (yielded ops a.tmps))) = some (some d, false))
    (hs : Region.noSelect ops = true) (hf : Region.free md ops listed i = true) (hr : (Region.ready md ops listed).contains i = true)
    (hQ : ∀ c a w, Q (.panic c) (a.put (some d) undef) w → Q (.panic c) a w) (hS : S w)
    (h : wpAnyH P md ops Q S fuel (listed.setIfInBounds i true) (a.put (some d) undef) w) : wpAnyH P md ops Q S (fuel + 1) listed a w := by
  cases ho : ops[i]? with
  | none => rw [ho] at hd; cases hd
  | some o =>
    rw [ho] at hd
    simp only [Option.map_some, Option.some.injEq, Prod.mk.injEq] at hd
    obtain ⟨h1, h2⟩ := hd
    refine wpAnyH_take (v := undef) ho hs hf hr ?_ (.inr ⟨h2, rfl⟩) hS ?_
    · rw [h1]; exact hQ
    · rw [h1]; exact h
theorem H.take {i : Nat} {o : Oper} {d : Tmp} {v : Value} {fuel : Nat} {listed : Array Bool} {a : Act} {w : World}
    (ho : ops[i]? = some o) (hw : Region.wanted o (yielded ops a.tmps) = true) (hd : o.dst = some d)
    (hs : Region.noSelect ops = true) (hf : Region.free md ops listed i = true) (hr : (Region.ready md ops listed).contains i = true)
    (hQ : ∀ c a w, Q (.panic c) (a.put (some d) v) w → Q (.panic c) a w)
    (hy : ∀ w, S w → (execOp a.eval o).run P w = .ok (.value v) w) (hS : S w)
    (h : wpAnyH P md ops Q S fuel (listed.setIfInBounds i true) (a.put (some d) v) w) : wpAnyH P md ops Q S (fuel + 1) listed a w := by
  refine wpAnyH_take (v := v) ho hs hf hr ?_ (.inl ⟨hw, hy⟩) hS ?_
  · rw [hd]; exact hQ
  · rw [hd]; exact h
/-- H.take, its side conditions shown by themselves. -/
theorem H.tk {i : Nat} {o : Oper} {d : Tmp} {v : Value} {fuel : Nat} {listed : Array Bool} {a : Act} {w : World}
    (hy : ∀ w, S w → (execOp a.eval o).run P w = .ok (.value v) w) (hS : S w)
    (h : wpAnyH P md ops Q S fuel (listed.setIfInBounds i true) (a.put (some d) v) w)
    (ho : ops[i]? = some o := by simp only [List.getElem?_toArray, List.getElem?_cons_succ, List.getElem?_cons_zero]; rfl)
    (hw : Region.wanted o (yielded ops a.tmps) = true := by kernel_rfl) (hd : o.dst = some d := by rfl)
    (hs : Region.noSelect ops = true := by kernel_rfl) (hf : Region.free md ops listed i = true := by kernel_rfl) (hr : (Region.ready md ops listed).contains i = true := by kernel_rfl)
    (hQ : ∀ c a w, Q (.panic c) (a.put (some d) v) w → Q (.panic c) a w := by exact fun _ _ _ h => h) : wpAnyH P md ops Q S (fuel + 1) listed a w :=
  H.take ho hw hd hs hf hr hQ hy hS h
theorem H.sk {i : Nat} {d : Tmp} {fuel : Nat} {listed : Array Bool} {a : Act} {w : World} (hS : S w)
    (h : wpAnyH P md ops Q S fuel (listed.setIfInBounds i true) (a.put (some d) undef) w)
    (hd : (ops[i]?).map (fun o => (o.dst, Region.wanted o (yielded ops a.tmps))) = some (some d, false) := by kernel_rfl)
    (hs : Region.noSelect ops = true := by kernel_rfl) (hf : Region.free md ops listed i = true := by kernel_rfl) (hr : (Region.ready md ops listed).contains i = true := by kernel_rfl)
    (hQ : ∀ c a w, Q (.panic c) (a.put (some d) undef) w → Q (.panic c) a w := by exact fun _ _ _ h => h) : wpAnyH P md ops Q S (fuel + 1) listed a w :=
  H.skip hd hs hf hr hQ hS h
end

theorem run_loadM {o : Oper} {ρ : Operand → Value} {x : Operand} {b : Nat} {m : M} {w : World} (ho : o.op = .load 38 x) (hx : ρ x = .pointer (some ⟨b, 0, none⟩)) (hb : Bx w b m) :
    (execOp ρ o).run Try.prog w = .ok (.value (.agg m.cells)) w := by
  unfold execOp
  simp only [ho, hx, Instr.loadAt, Instr.sureAddr, Sem.run_bind, Sem.run_pure, Result.andThen_ok, run_loadVar_row w b 38 38 m.cells (0, 0) _ hb Try.underlying38 rfl infoM]

/-- what a call leaves, if it leaves the old blocks alone -/
theorem heldP {P : Program} {f : Nat} {args : Array Value} {W : World} {v : Ending} (S : World → Prop) (hm : ∀ W w1, S W → Below W.heap.size W w1 → S w1)
    (h : Calls P f args W fun e w' => e = v ∧ Below W.heap.size W w') (hS : S W) : Calls P f args W fun e w' => e = v ∧ S w' :=
  h.mono fun _ _ ⟨he, hb⟩ => ⟨he, hm _ _ hS hb⟩
end Go.Proofs.Ytgfjhemfhfdklaa.Hs
