/-
  A list of Subs of a call's own, one appended behind the other: its cells, and that its Subs stand in the world; one operation of a region that draws its order. No conditions.
-/
import Derived.Test.YtgfjhemfhfdklaaCnt
import Derived.Test.YtgfjhemfhfdklaaHs
import Derived.Test.YtgfjhemfhfdklaaHx
import Derived.Test.YtgfjhemfhfdklaaBk
import Derived.Laws.AppendOwn
namespace Go.Proofs.Ytgfjhemfhfdklaa.Sx
open Go.ChangeShapes Go.WideShapes Go.ChangeAt Go.RowKit
open Go.Proofs.Ytgfjhemfhfdklaa.Ms
open Go.Proofs.Ytgfjhemfhfdklaa.Bk (Bk Sh)
set_option linter.unusedVariables false
set_option maxRecDepth 100000
set_option maxRecDepth 100000

/-- A Sub's cells. -/
def cellsS (x : El) : Array Value := #[.int .i64 x.2, .string x.1]
theorem oneS (x : El) : ((cellsS x).all fun x => x.oneCell') = true := by simp [cellsS, Value.oneCell']
theorem shS : Sh Try.prog 40 2 := ⟨_, Try.underlying40, by kernel_rfl⟩
theorem build_one (x : El) (w : World) : (Instr.buildSlice 22 1 #[(0, .agg (cellsS x))]).run Try.prog w = .ok (.slice (some ⟨w.heap.size, 0, none⟩) 1 1) (w.alloc (.cells (cellsS x) 40)) := by
  kernel_rfl
theorem ex_bs {o : Oper} {ρ : Operand → Value} {x : Operand} {m : El} {w : World} (ho : o.op = .buildSlice 22 1 #[(0, x)]) (hx : ρ x = .agg (cellsS m)) :
    (execOp ρ o).run Try.prog w = .ok (.value (.slice (some ⟨w.heap.size, 0, none⟩) 1 1)) (w.alloc (.cells (cellsS m) 40)) := by
  have e : ((#[(0, x)] : Array (Nat × Operand)).map fun (i, x) => (i, ρ x)) = #[(0, .agg (cellsS m))] := by simp [hx]
  unfold execOp
  simp only [ho, Sem.run_bind, e, build_one, Result.andThen_ok, Sem.run_pure]
theorem bs_one {ops : Array Oper} {rest : List Oper} {o : Oper} {a : Act} {w : World} {Q : Exit → Act → World → Prop} (hgd : o.guard = none) (x : Operand) (ho : o.op = .buildSlice 22 1 #[(0, x)])
    {m : El} (hx : a.eval x = .agg (cellsS m)) (h : wpList Try.prog ops Q rest (a.put o.dst (.slice (some ⟨w.heap.size, 0, none⟩) 1 1)) (w.alloc (.cells (cellsS m) 40))) : wpList Try.prog ops Q (o :: rest) a w :=
  wpList_plain hgd fun K hK => by
    unfold Oper.wp
    rw [ex_bs ho hx]
    exact hK _ _ h
theorem add_at (g o j : Nat) : (⟨g, o, none⟩ : Addr).add j = ⟨g, o + j, none⟩ := by
  unfold Addr.add
  split
  · rename_i h; rw [h]; rfl
  · rfl
/-- The cells of a list of Subs. -/
def rowS (l : List El) : List Value := l.flatMap fun x => (cellsS x).toList
theorem rowS_snoc (l : List El) (m : El) : rowS (l ++ [m]) = rowS l ++ (cellsS m).toList := by simp [rowS]
theorem rowS_at : ∀ (l : List El) (i j : Nat) (h : i < l.length), j < 2 → (rowS l)[i * 2 + j]? = ((cellsS l[i]).toList)[j]?
  | [], i, j, h, _ => absurd h (by simp)
  | m :: l, 0, j, h, hj => by
    have : rowS (m :: l) = (cellsS m).toList ++ rowS l := by simp [rowS]
    rw [this, Nat.zero_mul, Nat.zero_add, List.getElem?_append_left (by show j < (cellsS m).toList.length; exact hj)]
    rfl
  | m :: l, i + 1, j, h, hj => by
    have e : rowS (m :: l) = (cellsS m).toList ++ rowS l := by simp [rowS]
    have hl : (cellsS m).toList.length = 2 := rfl
    rw [e, List.getElem?_append_right (by rw [hl]; omega), hl, show (i + 1) * 2 + j - 2 = i * 2 + j by omega, rowS_at l i j (by simpa using h) hj]
    rfl
theorem infoS : ∃ i, Try.prog.info? 40 = some i ∧ i.zero = some (.agg #[.int .i64 0, .string ByteArray.empty]) ∧ i.size = 2 ∧ i.bytes ≤ 4096 := by
  have h : (Try.prog.info? 40).map (fun i => (i.zero, i.size, decide (i.bytes ≤ 4096))) = some (some (.agg #[.int .i64 0, .string ByteArray.empty]), 2, true) := by kernel_rfl
  obtain ⟨i, hi, hz⟩ := Option.map_eq_some_iff.1 h
  simp only [Prod.mk.injEq, decide_eq_true_eq] at hz
  exact ⟨i, hi, hz⟩

/-- The call's own list of the Subs l (what is new begins at block B). -/
def Lst (B : Nat) (w : World) (v : Value) (l : List El) : Prop := w.ownsRow B 40 2 v l.length (rowS l)
theorem Lst.nil (B : Nat) (w : World) : Lst B w (.slice none 0 0) [] := World.ownsRow_nil w B _ 2
theorem Lst.below {B : Nat} {w w' : World} {v : Value} {l : List El} (h : Lst B w v l) (hb : Below w.heap.size w w') : Lst B w' v l := by
  refine ⟨h.1, ?_⟩
  rcases h.2 with h | ⟨g, cap, cur, a, b, c, d⟩
  · exact .inl h
  · exact .inr ⟨g, cap, cur, a, b, (hb.block g (Array.getElem?_eq_some_iff.1 c).1).trans c, d⟩
theorem Lst.slice {B : Nat} {w : World} {v : Value} {l : List El} (h : Lst B w v l) : ∃ a c, v = .slice a l.length c := by
  rcases h.2 with ⟨hv, h0⟩ | ⟨g, cap, cur, hv, _⟩
  · exact ⟨none, 0, by rw [hv, h0]⟩
  · exact ⟨_, _, hv⟩
theorem Lst.row {B : Nat} {w : World} {a : Option Addr} {c : Nat} {l : List El} (h : Lst B w (.slice a l.length c) l) : SRow w a l := by
  intro i hi
  rcases h.2 with ⟨_, h0⟩ | ⟨g, cap, cur, hv, hb, hg, _⟩
  · omega
  · simp at hv
    obtain ⟨rfl, rfl⟩ := hv
    have hat : ∀ j v, j < 2 → ((cellsS l[i]).toList)[j]? = some v → w.cell? (((⟨g, 0, none⟩ : Addr).add (i * 2)).add j) = some v := fun j v hj hv => by
      have := World.ownsRow.cells h (g := g) rfl (i * 2 + j) v (by rw [rowS_at l i j hi hj]; exact hv)
      rw [add_at] at this
      rw [add_at, add_at, Nat.add_assoc]
      exact this
    exact ⟨⟨g, 0, none⟩, rfl, (Array.getElem?_eq_some_iff.1 hg).1, hat 0 _ (by decide) rfl, hat 1 _ (by decide) rfl⟩

theorem cells_new (m : El) (w : World) : ∀ j u, ((cellsS m).toList)[j]? = some u → (w.alloc (.cells (cellsS m) 40)).cell? ((⟨w.heap.size, 0, none⟩ : Addr).add j) = some u := by
  intro j u hu
  have := (Bk.Bk.new 40 w (cellsS m)).cell j u (by simpa using hu)
  rw [add_at, Nat.zero_add]
  exact this

theorem wp_app {o : Oper} {a : Act} {w : World} {Q : Exit → Act → World → Prop} {K : Act → World → Prop} (s x : Operand)
    (ho : o.op = .call { callee := .builtin .append, args := #[s, x], argTypes := #[22, 22] }) (B : Nat) (v : Value) (l : List El) (m : El) (g c : Nat)
    (hs : a.eval s = v) (hown : Lst B w v l) (hx : a.eval x = .slice (some ⟨g, 0, none⟩) 1 c) (hm : ∀ j u, ((cellsS m).toList)[j]? = some u → w.cell? ((⟨g, 0, none⟩ : Addr).add j) = some u)
    (hl : l.length ≤ 100000) (hB : B ≤ w.heap.size)
    (h : ∀ v' w', Lst B w' v' (l ++ [m]) → w.grownBy w' v.ownBlock → Below B w w' → K (a.put o.dst v') w') : Oper.wp Try.prog o a w K Q := by
  obtain ⟨i0, hi, hz, hsz, hby⟩ := infoS
  refine wp_append_own w s x 22 ho B 40 i0 (.agg #[.int .i64 0, .string ByteArray.empty]) 2 i0.bytes Try.underlying22 hi hz hsz rfl rfl (by decide) v l.length (rowS l) hs hown ⟨g, 0, none⟩ 1 c (cellsS m).toList hx rfl hm ?_ (by unfold maxLen; omega) ?_ hB ?_
  · intro u hu
    have := oneS m
    rw [Array.all_eq_true_iff_forall_mem] at this
    exact this u (by simpa using hu)
  · have : (l.length + 1) * i0.bytes ≤ 100001 * 4096 := Nat.mul_le_mul (by omega) hby
    omega
  · intro v' w' h2 h3 _
    refine h v' w' ?_ h3 ((Below.refl B w).grown h3 hB (fun k hk => (World.ownsRow.lt hown k hk).1))
    unfold Lst
    rw [rowS_snoc, List.length_append]
    exact h2
/-- append(v, m), behind the making of the list of m alone. -/
theorem app_one {ops : Array Oper} {rest : List Oper} {o : Oper} {a : Act} {w : World} {Q : Exit → Act → World → Prop} (hgd : o.guard = none) (s x : Operand)
    (ho : o.op = .call { callee := .builtin .append, args := #[s, x], argTypes := #[22, 22] }) (B : Nat) (v : Value) (l : List El) (m : El) (g c : Nat)
    (hs : a.eval s = v) (hown : Lst B w v l) (hx : a.eval x = .slice (some ⟨g, 0, none⟩) 1 c) (hm : ∀ j u, ((cellsS m).toList)[j]? = some u → w.cell? ((⟨g, 0, none⟩ : Addr).add j) = some u)
    (hl : l.length ≤ 100000) (hB : B ≤ w.heap.size)
    (h : ∀ v' w', Lst B w' v' (l ++ [m]) → Below B w w' → w.heap.size ≤ w'.heap.size → wpList Try.prog ops Q rest (a.put o.dst v') w') : wpList Try.prog ops Q (o :: rest) a w :=
  wpList_plain hgd fun K hK => wp_app s x ho B v l m g c hs hown hx hm hl hB fun v' w' h1 h2 h3 => hK _ _ (h v' w' h1 h3 h2.size)

section
variable {P : Program} {ops : Array Oper} {Q : Exit → Act → World → Prop} {md : Region.Mode} {S : World → Prop}
theorem H.one {i : Nat} {o : Oper} {fuel : Nat} {listed : Array Bool} {a : Act} {w : World}
    (ho : ops[i]? = some o) (hw : Region.wanted o (yielded ops a.tmps) = true) (hr : Region.ready md ops listed = [i])
    (h : ∀ K : Act → World → Prop, Hid (∀ a' w', S w' → wpAnyH P md ops Q S fuel (listed.setIfInBounds i true) a' w' → K a' w') → Oper.wp P o a w K Q) : wpAnyH P md ops Q S (fuel + 1) listed a w := by
  refine wpAnyH_ready (rs := [i]) hr (by simp) ?_
  refine AllReadyH.cons ho (fun K hK => ?_) AllReadyH.nil
  rw [if_pos hw]
  exact h K (Lib.hid (fun a' w' hS hW => hK.out a' w' hS (fun _ => hW)))
end
section
variable {ops : Array Oper} {Q : Exit → Act → World → Prop} {md : Region.Mode} {S : World → Prop}
/-- []api.Sub{m} -/
theorem H.bsS {i d : Nat} {o : Oper} {fuel : Nat} {listed : Array Bool} {a : Act} {w : World}
    (ho : ops[i]? = some o) (hw : Region.wanted o (yielded ops a.tmps) = true) (hr : Region.ready md ops listed = [i]) (hd : o.dst = some d)
    (x : Operand) (hop : o.op = .buildSlice 22 1 #[(0, x)]) {m : El} (hx : a.eval x = .agg (cellsS m)) (hS : S (w.alloc (.cells (cellsS m) 40)))
    (h : wpAnyH Try.prog md ops Q S fuel (listed.setIfInBounds i true) (a.put (some d) (.slice (some ⟨w.heap.size, 0, none⟩) 1 1)) (w.alloc (.cells (cellsS m) 40))) : wpAnyH Try.prog md ops Q S (fuel + 1) listed a w := by
  refine H.one ho hw hr (fun K hK => ?_)
  unfold Oper.wp
  rw [ex_bs hop hx]
  simp only [Oper.upon, hd]
  exact hK.out _ _ hS h
/-- append(v, m), behind the making of the list of m alone. -/
theorem H.appS {i d : Nat} {o : Oper} {fuel : Nat} {listed : Array Bool} {a : Act} {w : World}
    (ho : ops[i]? = some o) (hw : Region.wanted o (yielded ops a.tmps) = true) (hr : Region.ready md ops listed = [i]) (hd : o.dst = some d)
    (s x : Operand) (hop : o.op = .call { callee := .builtin .append, args := #[s, x], argTypes := #[22, 22] }) (B : Nat) (v : Value) (l : List El) (m : El) (g c : Nat)
    (hs : a.eval s = v) (hown : Lst B w v l) (hx : a.eval x = .slice (some ⟨g, 0, none⟩) 1 c) (hm : ∀ j u, ((cellsS m).toList)[j]? = some u → w.cell? ((⟨g, 0, none⟩ : Addr).add j) = some u)
    (hl : l.length ≤ 100000) (hB : B ≤ w.heap.size) (hS : ∀ w', w.grownBy w' v.ownBlock → S w')
    (h : ∀ v' w', Lst B w' v' (l ++ [m]) → w.grownBy w' v.ownBlock → Below B w w' → wpAnyH Try.prog md ops Q S fuel (listed.setIfInBounds i true) (a.put (some d) v') w') : wpAnyH Try.prog md ops Q S (fuel + 1) listed a w := by
  refine H.one ho hw hr (fun K hK => ?_)
  refine wp_app s x hop B v l m g c hs hown hx hm hl hB fun v' w' h1 h2 h3 => ?_
  rw [hd]
  exact hK.out _ _ (hS w' h2) (h v' w' h1 h2 h3)
end
end Go.Proofs.Ytgfjhemfhfdklaa.Sx
