/-
  A list of TLVs of a call's own, one appended behind the other, or a list behind it: its cells, and that its TLVs stand in the world; whether two are the same. No conditions, but on the lengths.
-/
import Derived.Test.YteecialdkfaejaaDoorF1
import Derived.Test.YteecialdkfaejaaDoorP5
import Derived.Laws.AppendOwn
import Derived.Laws.OwnMore
import Derived.Deep.AppendLies
import Derived.Deep.Slices
namespace Go.Proofs.YteecialdkfaejaaDoor.Tl
open Go.ChangeShapes Go.WideShapes Go.ChangeAt Go.RowKit
open Go.Proofs.YteecialdkfaejaaDoor.F1
open Go.Proofs.YteecialdkfaejaaDoor.Bk (Bk Sh)
open Go.Proofs.YteecialdkfaejaaDoor.Hy (H.one)
set_option linter.unusedVariables false
set_option maxRecDepth 100000
set_option maxRecDepth 100000

/-- The TLVs of a list stand in w. -/
def TRow (w : World) (a : Option Addr) (l : List T) : Prop :=
  ∀ i (h : i < l.length), ∃ p, a = some p ∧ p.block < w.heap.size ∧ w.cell? (p.add (i * 3)) = some (.int .i64 l[i].2.2) ∧ w.cell? ((p.add (i * 3)).add 1) = some (.int .i64 l[i].1) ∧ w.cell? ((p.add (i * 3)).add 2) = some (.string l[i].2.1)
theorem add_block (p : Addr) (n : Nat) : (p.add n).block = p.block := by unfold Addr.add; split <;> rfl
theorem TRow.below {w w' : World} {a : Option Addr} {l : List T} (h : TRow w a l) (hb : Below w.heap.size w w') : TRow w' a l := by
  intro i hi
  obtain ⟨p, h1, h2, h3, h4, h5⟩ := h i hi
  refine ⟨p, h1, Nat.lt_of_lt_of_le h2 hb.size, ?_, ?_, ?_⟩
  · rw [hb.cell (by rw [add_block]; exact h2)]; exact h3
  · rw [hb.cell (by rw [add_block, add_block]; exact h2)]; exact h4
  · rw [hb.cell (by rw [add_block, add_block]; exact h2)]; exact h5
theorem TRow.nil (w : World) (a : Option Addr) : TRow w a [] := fun i hi => absurd hi (by simp)
/-- A TLV's cells. -/
def cellsT (x : T) : Array Value := #[.int .i64 x.2.2, .int .i64 x.1, .string x.2.1]
theorem oneT (x : T) : ((cellsT x).all fun x => x.oneCell') = true := by simp [cellsT, Value.oneCell']
theorem shT : Sh Tryd.prog 29 3 := ⟨_, Tryd.underlying29, by kernel_rfl⟩
theorem build_one (x : T) (w : World) : (Instr.buildSlice 22 1 #[(0, .agg (cellsT x))]).run Tryd.prog w = .ok (.slice (some ⟨w.heap.size, 0, none⟩) 1 1) (w.alloc (.cells (cellsT x) 29)) := by
  kernel_rfl
theorem ex_bs {o : Oper} {ρ : Operand → Value} {x : Operand} {m : T} {w : World} (ho : o.op = .buildSlice 22 1 #[(0, x)]) (hx : ρ x = .agg (cellsT m)) :
    (execOp ρ o).run Tryd.prog w = .ok (.value (.slice (some ⟨w.heap.size, 0, none⟩) 1 1)) (w.alloc (.cells (cellsT m) 29)) := by
  have e : ((#[(0, x)] : Array (Nat × Operand)).map fun (i, x) => (i, ρ x)) = #[(0, .agg (cellsT m))] := by simp [hx]
  unfold execOp
  simp only [ho, Sem.run_bind, e, build_one, Result.andThen_ok, Sem.run_pure]
theorem bs_one {ops : Array Oper} {rest : List Oper} {o : Oper} {a : Act} {w : World} {Q : Exit → Act → World → Prop} (hgd : o.guard = none) (x : Operand) (ho : o.op = .buildSlice 22 1 #[(0, x)])
    {m : T} (hx : a.eval x = .agg (cellsT m)) (h : wpList Tryd.prog ops Q rest (a.put o.dst (.slice (some ⟨w.heap.size, 0, none⟩) 1 1)) (w.alloc (.cells (cellsT m) 29))) : wpList Tryd.prog ops Q (o :: rest) a w :=
  wpList_plain hgd fun K hK => by
    unfold Oper.wp
    rw [ex_bs ho hx]
    exact hK _ _ h
theorem add_at (g o j : Nat) : (⟨g, o, none⟩ : Addr).add j = ⟨g, o + j, none⟩ := by
  unfold Addr.add
  split
  · rename_i h; rw [h]; rfl
  · rfl
/-- The cells of a list of TLVs. -/
def rowT (l : List T) : List Value := l.flatMap fun x => (cellsT x).toList
theorem rowT_snoc (l : List T) (m : T) : rowT (l ++ [m]) = rowT l ++ (cellsT m).toList := by simp [rowT]
theorem rowT_at : ∀ (l : List T) (i j : Nat) (h : i < l.length), j < 3 → (rowT l)[i * 3 + j]? = ((cellsT l[i]).toList)[j]?
  | [], i, j, h, _ => absurd h (by simp)
  | m :: l, 0, j, h, hj => by
    have : rowT (m :: l) = (cellsT m).toList ++ rowT l := by simp [rowT]
    rw [this, Nat.zero_mul, Nat.zero_add, List.getElem?_append_left (by show j < (cellsT m).toList.length; exact hj)]
    rfl
  | m :: l, i + 1, j, h, hj => by
    have e : rowT (m :: l) = (cellsT m).toList ++ rowT l := by simp [rowT]
    have hl : (cellsT m).toList.length = 3 := rfl
    rw [e, List.getElem?_append_right (by rw [hl]; omega), hl, show (i + 1) * 3 + j - 3 = i * 3 + j by omega, rowT_at l i j (by simpa using h) hj]
    rfl
theorem infoT : ∃ i, Tryd.prog.info? 29 = some i ∧ i.zero = some (.agg #[.int .i64 0, .int .i64 0, .string ByteArray.empty]) ∧ i.size = 3 ∧ i.bytes ≤ 4096 := by
  have h : (Tryd.prog.info? 29).map (fun i => (i.zero, i.size, decide (i.bytes ≤ 4096))) = some (some (.agg #[.int .i64 0, .int .i64 0, .string ByteArray.empty]), 3, true) := by kernel_rfl
  obtain ⟨i, hi, hz⟩ := Option.map_eq_some_iff.1 h
  simp only [Prod.mk.injEq, decide_eq_true_eq] at hz
  exact ⟨i, hi, hz⟩

/-- The call's own list of the TLVs l (what is new begins at block B). -/
def Lst (B : Nat) (w : World) (v : Value) (l : List T) : Prop := w.ownsRow B 29 3 v l.length (rowT l)
theorem Lst.nil (B : Nat) (w : World) : Lst B w (.slice none 0 0) [] := World.ownsRow_nil w B _ 3
theorem Lst.below {B : Nat} {w w' : World} {v : Value} {l : List T} (h : Lst B w v l) (hb : Below w.heap.size w w') : Lst B w' v l := by
  refine ⟨h.1, ?_⟩
  rcases h.2 with h | ⟨g, cap, cur, a, b, c, d⟩
  · exact .inl h
  · exact .inr ⟨g, cap, cur, a, b, (hb.block g (Array.getElem?_eq_some_iff.1 c).1).trans c, d⟩
theorem Lst.slice {B : Nat} {w : World} {v : Value} {l : List T} (h : Lst B w v l) : ∃ a c, v = .slice a l.length c := by
  rcases h.2 with ⟨hv, h0⟩ | ⟨g, cap, cur, hv, _⟩
  · exact ⟨none, 0, by rw [hv, h0]⟩
  · exact ⟨_, _, hv⟩
theorem Lst.row {B : Nat} {w : World} {a : Option Addr} {c : Nat} {l : List T} (h : Lst B w (.slice a l.length c) l) : TRow w a l := by
  intro i hi
  rcases h.2 with ⟨_, h0⟩ | ⟨g, cap, cur, hv, hb, hg, _⟩
  · omega
  · simp at hv
    obtain ⟨rfl, rfl⟩ := hv
    have hat : ∀ j v, j < 3 → ((cellsT l[i]).toList)[j]? = some v → w.cell? (((⟨g, 0, none⟩ : Addr).add (i * 3)).add j) = some v := fun j v hj hv => by
      have := World.ownsRow.cells h (g := g) rfl (i * 3 + j) v (by rw [rowT_at l i j hi hj]; exact hv)
      rw [add_at] at this
      rw [add_at, add_at, Nat.add_assoc]
      exact this
    exact ⟨⟨g, 0, none⟩, rfl, (Array.getElem?_eq_some_iff.1 hg).1, hat 0 _ (by decide) rfl, hat 1 _ (by decide) rfl, hat 2 _ (by decide) rfl⟩

theorem lst_under {B g : Nat} {w : World} {v : Value} {l : List T} (h : Lst B w v l) (hg : g < B) (cs : Array Value) : Lst B (w.setRow g cs) v l := by
  refine ⟨h.1, ?_⟩
  rcases h.2 with h | ⟨k, cap, cur, a, b, c, d⟩
  · exact .inl h
  · exact .inr ⟨k, cap, cur, a, b, (setRow_other w g k cs (by omega)).trans c, d⟩
/-- A list of one's own, but for a cell of a block that stood before it. -/
theorem lst_cell {B : Nat} {w : World} {v : Value} {l : List T} (h : Lst B w v l) {p : Addr} (hp : p.block < B) (x : Value) : Lst B (w.setCell p x) v l := by
  refine ⟨h.1, ?_⟩
  rcases h.2 with h | ⟨g, cap, cur, a, b, c, d⟩
  · exact .inl h
  · exact .inr ⟨g, cap, cur, a, b, (heap_setCell_other w p g x (by omega)).trans c, d⟩
theorem cells_new (m : T) (w : World) : ∀ j u, ((cellsT m).toList)[j]? = some u → (w.alloc (.cells (cellsT m) 29)).cell? ((⟨w.heap.size, 0, none⟩ : Addr).add j) = some u := by
  intro j u hu
  have := (Bk.Bk.new 29 w (cellsT m)).cell j u (by simpa using hu)
  rw [add_at, Nat.zero_add]
  exact this

/-- make([]api.Tlv, 0, n) -/
theorem make_room {ops : Array Oper} {rest : List Oper} {o : Oper} {a : Act} {w : World} {Q : Exit → Act → World → Prop} (hgd : o.guard = none) (x y : Operand) (ho : o.op = .makeSlice 22 x y)
    (B n : Nat) (kl kc : IntKind) (C : Int) (hx : a.eval x = .int kl 0) (hy : a.eval y = .int kc C) (hC : C = (n : Int)) (hn : n ≤ 100000) (hB : B ≤ w.heap.size)
    (h : ∀ w', Lst B w' (.slice (some ⟨w.heap.size, 0, none⟩) 0 n) [] → Below B w w' → w.grownBy w' none → wpList Tryd.prog ops Q rest (a.put o.dst (.slice (some ⟨w.heap.size, 0, none⟩) 0 n)) w') : wpList Tryd.prog ops Q (o :: rest) a w := by
  obtain ⟨i0, hi, hz, hsz, hby⟩ := infoT
  refine wpList_make_own w hgd x y 22 ho B 29 i0 (.agg #[.int .i64 0, .int .i64 0, .string ByteArray.empty]) 3 Tryd.underlying22 hi hz hsz kl kc C n hx hy hC ?_ (by unfold maxLen; omega) hB ?_
  · have : i0.bytes * n ≤ 4096 * 100000 := Nat.mul_le_mul hby hn
    omega
  · intro w' h1 h2
    exact h w' h1 ((Below.refl B w).grown h2 hB (fun k hk => by cases hk)) h2
theorem wp_app {o : Oper} {a : Act} {w : World} {Q : Exit → Act → World → Prop} {K : Act → World → Prop} (s x : Operand)
    (ho : o.op = .call { callee := .builtin .append, args := #[s, x], argTypes := #[22, 22] }) (B : Nat) (v : Value) (l : List T) (m : T) (g c : Nat)
    (hs : a.eval s = v) (hown : Lst B w v l) (hx : a.eval x = .slice (some ⟨g, 0, none⟩) 1 c) (hm : ∀ j u, ((cellsT m).toList)[j]? = some u → w.cell? ((⟨g, 0, none⟩ : Addr).add j) = some u)
    (hl : l.length ≤ 100000) (hB : B ≤ w.heap.size)
    (h : ∀ v' w', Lst B w' v' (l ++ [m]) → w.grownBy w' v.ownBlock → Below B w w' → K (a.put o.dst v') w') : Oper.wp Tryd.prog o a w K Q := by
  obtain ⟨i0, hi, hz, hsz, hby⟩ := infoT
  refine wp_append_own w s x 22 ho B 29 i0 (.agg #[.int .i64 0, .int .i64 0, .string ByteArray.empty]) 3 i0.bytes Tryd.underlying22 hi hz hsz rfl rfl (by decide) v l.length (rowT l) hs hown ⟨g, 0, none⟩ 1 c (cellsT m).toList hx rfl hm ?_ (by unfold maxLen; omega) ?_ hB ?_
  · intro u hu
    have := oneT m
    rw [Array.all_eq_true_iff_forall_mem] at this
    exact this u (by simpa using hu)
  · have : (l.length + 1) * i0.bytes ≤ 100001 * 4096 := Nat.mul_le_mul (by omega) hby
    omega
  · intro v' w' h2 h3 _
    refine h v' w' ?_ h3 ((Below.refl B w).grown h3 hB (fun k hk => (World.ownsRow.lt hown k hk).1))
    unfold Lst
    rw [rowT_snoc, List.length_append]
    exact h2
theorem ob_ne {w : World} {B : Nat} {e T : TypeId} {size : Nat} {v : Value} {n : Nat} {xs : List Value} {b : Nat} {cs : Array Value} (hown : w.ownsRow B e size v n xs) (hb : Bk T w b cs) (hTe : T ≠ e) : v.ownBlock ≠ some b := by
  rcases hown.2 with ⟨rfl, _⟩ | ⟨g, cap, cur, rfl, _, hg, _⟩
  · simp [Value.ownBlock]
  · intro h
    simp only [Value.ownBlock, Option.some.injEq] at h
    subst h
    have := hb.symm.trans hg
    simp only [Option.some.injEq, Obj.cells.injEq] at this
    exact hTe this.2.1
/-- What is no TLV stands behind an append. -/
theorem Lst.keeps {B : Nat} {w w' : World} {v : Value} {l : List T} {t : TypeId} {b : Nat} {cs : Array Value} (hl : Lst B w v l) (hg : w.grownBy w' v.ownBlock) (hb : Bk t w b cs) (ht : t ≠ 29) : Bk t w' b cs :=
  (hg.block _ hb.lt (fun e => ob_ne hl hb ht e.symm)).trans hb
/-- A list stands when a block that holds no TLV is laid anew. -/
theorem Lst.off_row {B : Nat} {w : World} {v : Value} {l : List T} {t : TypeId} {b : Nat} {cs : Array Value} (hl : Lst B w v l) (hb : Bk t w b cs) (ht : t ≠ 29) (cs' : Array Value) : Lst B (w.setRow b cs') v l :=
  World.ownsRow.kept (row := some b) hl ⟨rfl, rfl, rfl, by simp, fun k _ hk => setRow_other w b k cs' (fun e => hk (by simp [e]))⟩ (Or.inr (ob_ne hl hb ht))
/-- append(v, m), behind the making of the list of m alone. -/
theorem app_one {ops : Array Oper} {rest : List Oper} {o : Oper} {a : Act} {w : World} {Q : Exit → Act → World → Prop} (hgd : o.guard = none) (s x : Operand)
    (ho : o.op = .call { callee := .builtin .append, args := #[s, x], argTypes := #[22, 22] }) (B : Nat) (v : Value) (l : List T) (m : T) (g c : Nat)
    (hs : a.eval s = v) (hown : Lst B w v l) (hx : a.eval x = .slice (some ⟨g, 0, none⟩) 1 c) (hm : ∀ j u, ((cellsT m).toList)[j]? = some u → w.cell? ((⟨g, 0, none⟩ : Addr).add j) = some u)
    (hl : l.length ≤ 100000) (hB : B ≤ w.heap.size)
    (h : ∀ v' w', Lst B w' v' (l ++ [m]) → w.grownBy w' v.ownBlock → Below B w w' → wpList Tryd.prog ops Q rest (a.put o.dst v') w') : wpList Tryd.prog ops Q (o :: rest) a w :=
  wpList_plain hgd fun K hK => wp_app s x ho B v l m g c hs hown hx hm hl hB fun v' w' h1 h2 h3 => hK _ _ (h v' w' h1 h2 h3)

section
variable {ops : Array Oper} {Q : Exit → Act → World → Prop} {md : Region.Mode} {S : World → Prop}
/-- []api.Tlv{m} -/
theorem H.bsT {i d : Nat} {o : Oper} {fuel : Nat} {listed : Array Bool} {a : Act} {w : World}
    (ho : ops[i]? = some o) (hw : Region.wanted o (yielded ops a.tmps) = true) (hr : Region.ready md ops listed = [i]) (hd : o.dst = some d)
    (x : Operand) (hop : o.op = .buildSlice 22 1 #[(0, x)]) {m : T} (hx : a.eval x = .agg (cellsT m)) (hS : S (w.alloc (.cells (cellsT m) 29)))
    (h : wpAnyH Tryd.prog md ops Q S fuel (listed.setIfInBounds i true) (a.put (some d) (.slice (some ⟨w.heap.size, 0, none⟩) 1 1)) (w.alloc (.cells (cellsT m) 29))) : wpAnyH Tryd.prog md ops Q S (fuel + 1) listed a w := by
  refine H.one ho hw hr (fun K hK => ?_)
  unfold Oper.wp
  rw [ex_bs hop hx]
  simp only [Oper.upon, hd]
  exact hK.out _ _ hS h
/-- append(v, m), behind the making of the list of m alone. -/
theorem H.appT {i d : Nat} {o : Oper} {fuel : Nat} {listed : Array Bool} {a : Act} {w : World}
    (ho : ops[i]? = some o) (hw : Region.wanted o (yielded ops a.tmps) = true) (hr : Region.ready md ops listed = [i]) (hd : o.dst = some d)
    (s x : Operand) (hop : o.op = .call { callee := .builtin .append, args := #[s, x], argTypes := #[22, 22] }) (B : Nat) (v : Value) (l : List T) (m : T) (g c : Nat)
    (hs : a.eval s = v) (hown : Lst B w v l) (hx : a.eval x = .slice (some ⟨g, 0, none⟩) 1 c) (hm : ∀ j u, ((cellsT m).toList)[j]? = some u → w.cell? ((⟨g, 0, none⟩ : Addr).add j) = some u)
    (hl : l.length ≤ 100000) (hB : B ≤ w.heap.size) (hS : ∀ w', w.grownBy w' v.ownBlock → S w')
    (h : ∀ v' w', Lst B w' v' (l ++ [m]) → w.grownBy w' v.ownBlock → Below B w w' → wpAnyH Tryd.prog md ops Q S fuel (listed.setIfInBounds i true) (a.put (some d) v') w') : wpAnyH Tryd.prog md ops Q S (fuel + 1) listed a w := by
  refine H.one ho hw hr (fun K hK => ?_)
  refine wp_app s x hop B v l m g c hs hown hx hm hl hB fun v' w' h1 h2 h3 => ?_
  rw [hd]
  exact hK.out _ _ (hS w' h2) (h v' w' h1 h2 h3)
end
theorem bool_eq {a b : Bool} (h : a = b) : Ending.returned (.bool a) = .returned (.bool b) := by rw [h]
theorem add_none (p : Addr) : p.add 0 = p := by
  unfold Addr.add
  rw [if_pos rfl]
theorem add_one (p : Addr) : p.add 1 = ⟨p.block, p.off + 1, none⟩ := rfl
theorem add_two (p : Addr) : p.add 2 = ⟨p.block, p.off + 2, none⟩ := rfl
theorem below_drewN {w W : World} (h : Below w.heap.size w W) : ∀ n, Below w.heap.size w (W.drewN n)
  | 0 => h
  | n + 1 => (below_drewN h n).drew
theorem take_two {α : Type} (x y : List α) (k : Nat) (hx : k < x.length) (hy : k < y.length) (h : x.take k = y.take k) (he : x[k] = y[k]) : x.take (k + 1) = y.take (k + 1) := by
  rw [List.take_succ_eq_append_getElem hx, List.take_succ_eq_append_getElem hy, h, he]
theorem eqF_int {P : Program} {W : World} {d : Nat} {f : Field} {fs : List Field} {xs ys : Array Value} {k k' : IntKind} {a b : Int} {r : Bool} (hn : f.name ≠ "_") (ht : P.underlying f.type = some (.int k'))
    (hx : (part f.type xs f.offset).run P W = .ok (.int k a) W) (hy : (part f.type ys f.offset).run P W = .ok (.int k b) W) (h : (Op.eqFields (d + 1) xs ys fs).run P W = .ok r W) :
    (Op.eqFields (d + 1) xs ys (f :: fs)).run P W = .ok (a == b && r) W := by
  simp only [Op.eqFields, ne_eq, hn, not_false_eq_true, if_true, Sem.run_bind, hx, hy, Result.andThen_ok, run_equalIn_int W d f.type k k' a b ht, Sem.run_ite, h, Sem.run_pure]
  cases a == b <;> simp
theorem eqF_str {P : Program} {W : World} {d : Nat} {f : Field} {fs : List Field} {xs ys : Array Value} {a b : ByteArray} {r : Bool} (hn : f.name ≠ "_") (ht : P.underlying f.type = some .string)
    (hx : (part f.type xs f.offset).run P W = .ok (.string a) W) (hy : (part f.type ys f.offset).run P W = .ok (.string b) W) (h : (Op.eqFields (d + 1) xs ys fs).run P W = .ok r W) :
    (Op.eqFields (d + 1) xs ys (f :: fs)).run P W = .ok (a.toList == b.toList && r) W := by
  simp only [Op.eqFields, ne_eq, hn, not_false_eq_true, if_true, Sem.run_bind, hx, hy, Result.andThen_ok, run_equalIn_string W d f.type a b ht, Sem.run_ite, h, Sem.run_pure]
  cases a.toList == b.toList <;> simp
theorem bytes_beq (a b : ByteArray) : (a.toList == b.toList) = decide (a = b) := by
  rw [← beq_toListBytes]
  by_cases h : a = b
  · subst h; rw [beq_toListBytes]; simp
  · have : (a == b) = false := by
      rw [beq_toListBytes]
      simp only [ByteArray.toList_eq, beq_eq_false_iff_ne, ne_eq]
      intro h2
      exact h (Nu.text_eq h2)
    rw [this]; simp [h]
def elT (x y : T) : Bool := decide (x = y)
theorem elT_eq (x y : T) : elT x y = (x.2.2 == y.2.2 && (x.1 == y.1 && (x.2.1.toList == y.2.1.toList && true))) := by
  obtain ⟨p, a, n⟩ := x
  obtain ⟨q, b, m⟩ := y
  unfold elT
  rw [bytes_beq, Bool.and_true]
  by_cases h1 : a = b <;> by_cases h2 : n = m <;> by_cases h3 : p = q <;> simp [h1, h2, h3]
theorem run_eqTlv (x y : T) (W : World) : (Op.equalIn 10000 29 (.agg (cellsT x)) (.agg (cellsT y))).run Tryd.prog W = .ok (elT x y) W := by
  have hf : Tryd.prog.underlying 29 = some (.struct (Tryd.prog.fieldsOf 29)) := by kernel_rfl
  have hp : Tryd.prog.stoodInHeld 29 = false := by kernel_rfl
  unfold cellsT
  rw [run_equalIn_struct W 9999 29 _ _ hf hp, elT_eq]
  simp only [Program.fieldsOf, Tryd.underlying29]
  refine eqF_int (by decide) Tryd.underlying3 rfl rfl ?_
  refine eqF_int (by decide) Tryd.underlying3 rfl rfl ?_
  refine eqF_str (by decide) Tryd.underlying9 rfl rfl ?_
  rfl
theorem run_neqTlv (x y : T) (W : World) : (binOp .neq 29 (.agg #[.int .i64 x.2.2, .int .i64 x.1, .string x.2.1]) (.agg #[.int .i64 y.2.2, .int .i64 y.1, .string y.2.1])).run Tryd.prog W = .ok (.bool (!elT x y)) W := by
  have hq : (Op.equalIn 10000 29 (.agg #[.int .i64 x.2.2, .int .i64 x.1, .string x.2.1]) (.agg #[.int .i64 y.2.2, .int .i64 y.1, .string y.2.1])).run Tryd.prog W = .ok (elT x y) W := run_eqTlv x y W
  rw [run_neq_struct, hq]; rfl
theorem run_eqlTlv (x y : T) (W : World) : (binOp .eql 29 (.agg #[.int .i64 x.2.2, .int .i64 x.1, .string x.2.1]) (.agg #[.int .i64 y.2.2, .int .i64 y.1, .string y.2.1])).run Tryd.prog W = .ok (.bool (elT x y)) W := by
  have hq : (Op.equalIn 10000 29 (.agg #[.int .i64 x.2.2, .int .i64 x.1, .string x.2.1]) (.agg #[.int .i64 y.2.2, .int .i64 y.1, .string y.2.1])).run Tryd.prog W = .ok (elT x y) W := run_eqTlv x y W
  rw [run_eql_struct, hq]; rfl
theorem run_guardTlv (k : BinOp) (x y : T) (o p : Operand) (W : World) : (eqGuard k 29 o p (.agg #[.int .i64 x.2.2, .int .i64 x.1, .string x.2.1]) (.agg #[.int .i64 y.2.2, .int .i64 y.1, .string y.2.1])).run Tryd.prog W = .ok () W := run_eqGuard_agg W k _ o p _ _ (by kernel_rfl)
theorem indexT (p : Addr) (n c i : Nat) (h : i < n) (W : World) : (Instr.indexAt 22 (.slice (some p) n c) (.int .i64 (i : Int))).run Tryd.prog W = .ok (.pointer (some (p.add (i * 3)))) W := by
  have he : Tryd.prog.elem 22 = 29 := by simp [Program.elem, Tryd.underlying22]
  have hz : (sizeOf 29).run Tryd.prog W = .ok 3 W := by go_simp
  rw [run_indexAt_slice W 22 p n c .i64 (i : Int) (by rw [he]; exact Tryd.underlying22), if_pos (by omega), he, hz]
  rfl
theorem rowT_len (l : List T) : (rowT l).length = l.length * 3 := by
  induction l with
  | nil => rfl
  | cons m l ih =>
    have : rowT (m :: l) = (cellsT m).toList ++ rowT l := by simp [rowT]
    rw [this, List.length_append, ih, List.length_cons]
    have : (cellsT m).toList.length = 3 := rfl
    omega
theorem row_cells {w : World} {p : Addr} {l : List T} (h : TRow w (some p) l) (j : Nat) (u : Value) (hu : (rowT l)[j]? = some u) : w.cell? (p.add j) = some u := by
  have hj : j < l.length * 3 := by
    have := (List.getElem?_eq_some_iff.1 hu).1
    rwa [rowT_len] at this
  have hi : j / 3 < l.length := by omega
  obtain ⟨q, hq, _, h1, h2, h3⟩ := h (j / 3) hi
  cases hq
  have hat := rowT_at l (j / 3) (j % 3) hi (by omega)
  rw [show j / 3 * 3 + j % 3 = j by omega, hu] at hat
  have hm : j % 3 = 0 ∨ j % 3 = 1 ∨ j % 3 = 2 := by omega
  rcases hm with hm | hm | hm
  · rw [hm] at hat
    rw [show j / 3 * 3 = j by omega] at h1
    rw [h1]
    exact hat.symm
  · rw [hm] at hat
    rw [Go.Deep.add_add, show j / 3 * 3 + 1 = j by omega] at h2
    rw [h2]
    exact hat.symm
  · rw [hm] at hat
    rw [Go.Deep.add_add, show j / 3 * 3 + 2 = j by omega] at h3
    rw [h3]
    exact hat.symm
theorem row_one (l : List T) : ∀ u ∈ rowT l, u.oneCell' = true := by
  intro u hu
  simp only [rowT, List.mem_flatMap] at hu
  obtain ⟨x, _, hx⟩ := hu
  have := oneT x
  rw [Array.all_eq_true_iff_forall_mem] at this
  exact this u (by simpa using hx)
theorem row_nil {w : World} {l : List T} (h : TRow w none l) : l = [] := by
  cases l with
  | nil => rfl
  | cons x l => obtain ⟨_, h1, _⟩ := h 0 (by simp); cases h1
theorem rowT_append (a b : List T) : rowT (a ++ b) = rowT a ++ rowT b := by simp [rowT]
theorem run_app (ty : TypeId) (B : Nat) (w : World) (v : Value) (l m : List T) (a : Option Addr) (c : Nat) (hown : Lst B w v l) (hm : TRow w a m) (hl : l.length + m.length ≤ 100000) (hB : B ≤ w.heap.size) :
    ∃ v' w', (Builtin.append_ #[22, 22] ty #[v, .slice a m.length c]).run Tryd.prog w = .ok v' w' ∧ Lst B w' v' (l ++ m) ∧ Below B w w' := by
  obtain ⟨i0, hi, hz, hsz, hby⟩ := infoT
  cases a with
  | none =>
    obtain rfl := row_nil hm
    refine ⟨v, w, ?_, by rw [List.append_nil]; exact hown, Below.refl _ _⟩
    rcases hown.2 with ⟨hv, h0⟩ | ⟨g, cap, cur, hv, _, _, hnc, _⟩
    · rw [hv]
      simp [Builtin.append_, run_underlying Tryd.underlying22, sizeOf, typeInfo, hi, Builtin.lenOf, Builtin.firstCells]
    · rw [hv]
      simp [Builtin.append_, run_underlying Tryd.underlying22, sizeOf, typeInfo, hi, Builtin.lenOf, Builtin.firstCells, hnc, storeCells]
  | some p =>
    have hbb : (l.length + m.length) * i0.bytes ≤ 100000 * 4096 := Nat.mul_le_mul hl hby
    obtain ⟨v', w', h1, h2, h3, _⟩ := run_append_own (P := Tryd.prog) w B 22 ty 29 i0 (.agg #[.int .i64 0, .int .i64 0, .string ByteArray.empty]) 3 i0.bytes Tryd.underlying22 hi hz hsz rfl rfl (by decide) v l.length (rowT l) hown p m.length c (rowT m) (rowT_len m) (row_cells hm) (row_one m) (by unfold maxLen; omega) (by omega) hB
    refine ⟨v', w', h1, ?_, (Below.refl B w).grown h3 hB (fun k hk => (World.ownsRow.lt hown k hk).1)⟩
    unfold Lst
    rw [rowT_append, List.length_append]
    exact h2
/-- append(v, m...) -/
theorem st_app {ops : Array Oper} {Q : Exit → Act → World → Prop} {A : Act} {w : World} {rest : List Oper} {o : Oper} (hw : Region.wanted o (yielded ops A.tmps) = true) (s x : Operand)
    (ho : o.op = .call { callee := .builtin .append, args := #[s, x], argTypes := #[22, 22] }) (B : Nat) (v : Value) (l m : List T) (a : Option Addr) (c : Nat)
    (hs : A.eval s = v) (hown : Lst B w v l) (hx : A.eval x = .slice a m.length c) (hm : TRow w a m) (hl : l.length + m.length ≤ 100000) (hB : B ≤ w.heap.size)
    (h : ∀ v' w', Lst B w' v' (l ++ m) → Below B w w' → wpList Tryd.prog ops Q rest (A.put o.dst v') w') : wpList Tryd.prog ops Q (o :: rest) A w := by
  obtain ⟨v', w', h1, h2, h3⟩ := run_app o.type B w v l m a c hown hm hl hB
  refine wpList_step fun K hK => ?_
  rw [if_pos hw]
  unfold Oper.wp execOp
  simp only [ho, resolve, invoke, builtin, Sem.run_bind, Sem.run_pure, Result.andThen_ok, List.map_toArray, List.map_cons, List.map_nil, hs, hx, h1]
  exact hK _ _ (h v' w' h2 h3)
theorem lst_lit (w : World) (B : Nat) (hB : B ≤ w.heap.size) : Lst B (w.alloc (.cells #[] 29)) (.slice (some ⟨w.heap.size, 0, none⟩) 0 0) [] :=
  World.ownsRow_lit (base := B) (e := 29) (size := 3) w #[] 0 hB (by decide) rfl
end Go.Proofs.YteecialdkfaejaaDoor.Tl
