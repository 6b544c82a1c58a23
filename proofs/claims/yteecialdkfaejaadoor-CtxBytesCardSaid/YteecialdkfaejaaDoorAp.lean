/-
  A list of messages of a call's own, one appended behind the other: its cells, and that its messages stand in the world. No conditions.
-/
import Derived.Test.YteecialdkfaejaaDoorAll
import Derived.Laws.AppendOwn
namespace Go.Proofs.YteecialdkfaejaaDoor.Ap
open Go.ChangeShapes Go.WideShapes Go.ChangeAt Go.RowKit
open Go.Proofs.YteecialdkfaejaaDoor.Ms
open Go.Proofs.YteecialdkfaejaaDoor.Box
open Go.Proofs.YteecialdkfaejaaDoor.All
set_option linter.unusedVariables false
set_option maxRecDepth 100000
set_option maxRecDepth 100000

theorem build_one (m : M) (w : World) : (Instr.buildSlice 30 1 #[(0, .agg m.cells)]).run Tryd.prog w = .ok (.slice (some ⟨w.heap.size, 0, none⟩) 1 1) (w.alloc (.cells m.cells 40)) := by
  kernel_rfl
theorem ex_bs {o : Oper} {ρ : Operand → Value} {x : Operand} {m : M} {w : World} (ho : o.op = .buildSlice 30 1 #[(0, x)]) (hx : ρ x = .agg m.cells) :
    (execOp ρ o).run Tryd.prog w = .ok (.value (.slice (some ⟨w.heap.size, 0, none⟩) 1 1)) (w.alloc (.cells m.cells 40)) := by
  have e : ((#[(0, x)] : Array (Nat × Operand)).map fun (i, x) => (i, ρ x)) = #[(0, .agg m.cells)] := by simp [hx]
  unfold execOp
  simp only [ho, Sem.run_bind, e, build_one, Result.andThen_ok, Sem.run_pure]
theorem bs_one {ops : Array Oper} {rest : List Oper} {o : Oper} {a : Act} {w : World} {Q : Exit → Act → World → Prop} (hgd : o.guard = none) (x : Operand) (ho : o.op = .buildSlice 30 1 #[(0, x)])
    {m : M} (hx : a.eval x = .agg m.cells) (h : wpList Tryd.prog ops Q rest (a.put o.dst (.slice (some ⟨w.heap.size, 0, none⟩) 1 1)) (w.alloc (.cells m.cells 40))) : wpList Tryd.prog ops Q (o :: rest) a w :=
  wpList_plain hgd fun K hK => by
    unfold Oper.wp
    rw [ex_bs ho hx]
    exact hK _ _ h
theorem add_at (g o j : Nat) : (⟨g, o, none⟩ : Addr).add j = ⟨g, o + j, none⟩ := by
  unfold Addr.add
  split
  · rename_i h; rw [h]; rfl
  · rfl
/-- The cells of a list of messages. -/
def rowC (l : List M) : List Value := l.flatMap fun m => m.cells.toList
theorem rowC_snoc (l : List M) (m : M) : rowC (l ++ [m]) = rowC l ++ m.cells.toList := by simp [rowC]
theorem rowC_len (l : List M) : (rowC l).length = l.length * 25 := by
  induction l with
  | nil => rfl
  | cons m l ih =>
    have : rowC (m :: l) = m.cells.toList ++ rowC l := by simp [rowC]
    rw [this, List.length_append, ih, List.length_cons]
    have : m.cells.toList.length = 25 := rfl
    omega
theorem rowC_at : ∀ (l : List M) (i j : Nat) (h : i < l.length), j < 25 → (rowC l)[i * 25 + j]? = (l[i].cells.toList)[j]?
  | [], i, j, h, _ => absurd h (by simp)
  | m :: l, 0, j, h, hj => by
    have : rowC (m :: l) = m.cells.toList ++ rowC l := by simp [rowC]
    rw [this, Nat.zero_mul, Nat.zero_add, List.getElem?_append_left (by show j < m.cells.toList.length; exact hj)]
    rfl
  | m :: l, i + 1, j, h, hj => by
    have e : rowC (m :: l) = m.cells.toList ++ rowC l := by simp [rowC]
    have hl : m.cells.toList.length = 25 := rfl
    rw [e, List.getElem?_append_right (by rw [hl]; omega), hl, show (i + 1) * 25 + j - 25 = i * 25 + j by omega, rowC_at l i j (by simpa using h) hj]
    rfl
theorem infoA : ∃ i, Tryd.prog.info? 40 = some i ∧ i.zero = some (.agg M.zero.cells) ∧ i.size = 25 ∧ i.bytes ≤ 4096 := by
  have h : (Tryd.prog.info? 40).map (fun i => (i.zero, i.size, decide (i.bytes ≤ 4096))) = some (some (.agg M.zero.cells), 25, true) := by kernel_rfl
  obtain ⟨i, hi, hz⟩ := Option.map_eq_some_iff.1 h
  simp only [Prod.mk.injEq, decide_eq_true_eq] at hz
  exact ⟨i, hi, hz⟩

/-- The call's own list of the messages l (what is new begins at block B). -/
def Lst (B : Nat) (w : World) (v : Value) (l : List M) : Prop := w.ownsRow B 40 25 v l.length (rowC l)
theorem Lst.nil (B : Nat) (w : World) : Lst B w (.slice none 0 0) [] := World.ownsRow_nil w B _ 25
theorem Lst.below {B : Nat} {w w' : World} {v : Value} {l : List M} (h : Lst B w v l) (hb : Below w.heap.size w w') : Lst B w' v l := by
  refine ⟨h.1, ?_⟩
  rcases h.2 with h | ⟨g, cap, cur, a, b, c, d⟩
  · exact .inl h
  · exact .inr ⟨g, cap, cur, a, b, (hb.block g (Array.getElem?_eq_some_iff.1 c).1).trans c, d⟩
theorem Lst.slice {B : Nat} {w : World} {v : Value} {l : List M} (h : Lst B w v l) : ∃ a c, v = .slice a l.length c := by
  rcases h.2 with ⟨hv, h0⟩ | ⟨g, cap, cur, hv, _⟩
  · exact ⟨none, 0, by rw [hv, h0]⟩
  · exact ⟨_, _, hv⟩
/-- Messages without lists within. -/
def Flat (l : List M) : Prop := ∀ m ∈ l, m.ll = [] ∧ m.sl = []
theorem Lst.row {B : Nat} {w : World} {a : Option Addr} {c : Nat} {l : List M} (h : Lst B w (.slice a l.length c) l) (hf : Flat l) : MRow w a l := by
  intro i hi
  rcases h.2 with ⟨_, h0⟩ | ⟨g, cap, cur, hv, hb, hg, _⟩
  · omega
  · simp at hv
    obtain ⟨rfl, rfl⟩ := hv
    refine ⟨⟨g, 0, none⟩, rfl, (Array.getElem?_eq_some_iff.1 hg).1, fun j v hv => ?_, ?_, ?_⟩
    · have hj : j < 25 := (List.getElem?_eq_some_iff.1 hv).1
      have := World.ownsRow.cells h (g := g) rfl (i * 25 + j) v (by rw [rowC_at l i j hi hj]; exact hv)
      rw [add_at] at this
      rw [add_at, add_at, Nat.add_assoc]
      exact this
    · rw [(hf _ (List.getElem_mem hi)).1]; exact DRow.nil _ _
    · rw [(hf _ (List.getElem_mem hi)).2]; exact SRow.nil _ _

theorem cells_new (m : M) (w : World) : ∀ j u, (m.cells.toList)[j]? = some u → (w.alloc (.cells m.cells 40)).cell? ((⟨w.heap.size, 0, none⟩ : Addr).add j) = some u := by
  intro j u hu
  have := (Bx.new w m).cell j u (by simpa using hu)
  rw [add_at, Nat.zero_add]
  exact this

/-- append(v, m), behind the making of the list of m alone. -/
theorem app_one {ops : Array Oper} {rest : List Oper} {o : Oper} {a : Act} {w : World} {Q : Exit → Act → World → Prop} (hgd : o.guard = none) (s x : Operand)
    (ho : o.op = .call { callee := .builtin .append, args := #[s, x], argTypes := #[30, 30] }) (B : Nat) (v : Value) (l : List M) (m : M) (g c : Nat)
    (hs : a.eval s = v) (hown : Lst B w v l) (hx : a.eval x = .slice (some ⟨g, 0, none⟩) 1 c) (hm : ∀ j u, (m.cells.toList)[j]? = some u → w.cell? ((⟨g, 0, none⟩ : Addr).add j) = some u)
    (hl : l.length ≤ 100000) (hB : B ≤ w.heap.size)
    (h : ∀ v' w', Lst B w' v' (l ++ [m]) → Below B w w' → w.heap.size ≤ w'.heap.size → wpList Tryd.prog ops Q rest (a.put o.dst v') w') : wpList Tryd.prog ops Q (o :: rest) a w := by
  obtain ⟨i0, hi, hz, hsz, hby⟩ := infoA
  refine wpList_append_own w hgd s x 30 ho B 40 i0 (.agg M.zero.cells) 25 i0.bytes Tryd.underlying30 hi hz hsz rfl rfl (by decide) v l.length (rowC l) hs hown ⟨g, 0, none⟩ 1 c m.cells.toList hx rfl hm ?_ (by unfold maxLen; omega) ?_ hB ?_
  · intro u hu
    have := oneM m
    rw [Array.all_eq_true_iff_forall_mem] at this
    exact this u (by simpa using hu)
  · have : (l.length + 1) * i0.bytes ≤ 100001 * 4096 := Nat.mul_le_mul (by omega) hby
    omega
  · intro v' w' h2 h3 _
    refine h v' w' ?_ ((Below.refl B w).grown h3 hB (fun k hk => (World.ownsRow.lt hown k hk).1)) h3.size
    unfold Lst
    rw [rowC_snoc, List.length_append]
    exact h2
end Go.Proofs.YteecialdkfaejaaDoor.Ap
