/-
  A region that draws its order: the store of a whole struct at its end, a struct built, a string's byte, a conversion. No conditions.
-/
import Derived.Test.YtgfjhemfhfdklaaHs
import Derived.IntWalk
namespace Go.Proofs.Ytgfjhemfhfdklaa.Hx
open Go.ChangeShapes Go.WideShapes Go.ChangeAt Go.RowKit
set_option linter.unusedVariables false
set_option maxRecDepth 100000
set_option maxRecDepth 100000

section
variable {P : Program} {ops : Array Oper} {Q : Exit → Act → World → Prop} {md : Region.Mode} {S : World → Prop}
theorem H.storeRow {i : Nat} {o : Oper} {fuel : Nat} {listed : Array Bool} {a : Act} {w : World} {ty : TypeId} {x y : Operand}
    (ho : ops[i]? = some o) (hw : Region.wanted o (yielded ops a.tmps) = true) (hd : o.dst = none) (hop : o.op = .store ty x y) (hr : Region.ready md ops listed = [i])
    (g : Nat) (cells : Array Value) (hx : a.eval x = .pointer (some ⟨g, 0, none⟩)) (hy : a.eval y = .agg cells) (t : TypeId) (old : Array Value) (hg : w.heap[g]? = some (.cells old t (0, 0)))
    (hi : (P.info? ty).map (·.size) = some cells.size) (hold : old.size = cells.size) (h1 : cells.all (·.oneCell') = true) (hS : S (w.setRow g cells))
    (h : wpAnyH P md ops Q S fuel (listed.setIfInBounds i true) a (w.setRow g cells)) : wpAnyH P md ops Q S (fuel + 1) listed a w := by
  refine wpAnyH_ready (rs := [i]) hr (by simp) ?_
  refine AllReadyH.cons ho (fun K hK => ?_) AllReadyH.nil
  rw [if_pos hw]
  refine wp_store_row ty x y hop g cells hx hy t old hg hi hold h1 ?_
  rw [hd]
  exact hK.out _ _ hS (fun _ => h)
end
theorem ex_built {P : Program} {o : Oper} {ρ : Operand → Value} {t : TypeId} {parts : Array (Nat × Operand)} {cells : Array Value} {w : World} (ho : o.op = .build t parts) (hc : P.built t (parts.map fun (i, x) => (i, ρ x)).toList = some cells) :
    (execOp ρ o).run P w = .ok (.value (.agg cells)) w := by
  unfold execOp
  simp only [ho, Sem.run_bind, run_build w t _ cells hc, Result.andThen_ok, Sem.run_pure]
theorem ex_neqS {o : Oper} {ρ : Operand → Value} {x y : Operand} {a b : ByteArray} {r : Bool} {w : World} (ho : o.op = .binOp .neq 9 x y 9) (hx : ρ x = .string a) (hy : ρ y = .string b) (hr : (!(a.toList == b.toList)) = r) :
    (execOp ρ o).run Try.prog w = .ok (.value (.bool r)) w := by
  subst hr
  unfold execOp
  simp only [ho, hx, hy]
  go_simp
theorem conv8 (n : Int) (h0 : 0 ≤ n) (h1 : n < 256) (W : World) : (convert 5 3 (.int .u8 n)).run Try.prog W = .ok (.int .i64 n) W := by
  rw [run_convert_int W 5 3 .u8 n (by rw [Try.underlying5]; rfl) Try.underlying3]
  have : (Try.prog.intKind 3).wrap n = n := by
    rw [show Try.prog.intKind 3 = .i64 by kernel_rfl]
    exact IntWalk.i64_in n (by omega)
  rw [this, show Try.prog.intKind 3 = .i64 by kernel_rfl]
end Go.Proofs.Ytgfjhemfhfdklaa.Hx
