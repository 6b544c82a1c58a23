/-
  A region that draws its order: the store of a whole struct at its end, a struct built, a string's byte, a conversion. No conditions.
  A block of one's own that holds a struct's cells, whatever struct it is; an entry's fields; what fields' bytes are. No conditions.
  A list of Subs of a call's own, one appended behind the other: its cells, and that its Subs stand in the world; one operation of a region that draws its order. No conditions.
  What stands beside a message's copy; the answer of a Get of messages with Subs alone: a message, whether it counts, an error; what few parts say. No conditions.
  Whether two lists of messages are the same: the program's answer (slices.EqualFunc) and the document's; whether a list has few messages. Condition: lists within of at most 2^20 elements.
  A list of messages of a call's own, one appended behind the other: its cells, and that its messages stand in the world. No conditions.
  One operation of a region that draws its order, by hand: one alone, or two that may come next. No conditions.
  A list of TLVs of a call's own, one appended behind the other, or a list behind it: its cells, and that its TLVs stand in the world; whether two are the same. No conditions, but on the lengths.
  What came in, opened: a message by value, a list of messages: each is a message whose lists stand in the world.
  What came in, opened: a TLV by value, two bytes by value. No conditions.
  What is known as the program holds it: its block, loaded and stored whole; whether two are the same; lists of messages that are alike but for where their Subs stand; what a step answers; what came in, opened. No conditions.
  A list of messages with Subs, all of a call's own, to which messages are appended, one or a list of them. No conditions.
-/
import Derived.Test.YtpkmpinbpfblfaaGreatDoorQ01
import Derived.Test.YtpkmpinbpfblfaaGreatDoorQ02
import Derived.Test.YtpkmpinbpfblfaaGreatDoorQ03
import Derived.IntWalk
import Derived.Laws.Rows
import Derived.Laws.Tables
import Derived.OwnWalk
import Derived.Deep.WholeRow
import Derived.Deep.DeepCutAuto
import Derived.Deep.Cut
import Derived.Laws.AppendOwn
import Derived.Laws.OwnMore
import Derived.Deep.AppendLies
import Derived.Deep.Slices
import Derived.Deep.Fields
import Derived.ChangeSame
import Derived.Carry
import Derived.Lib.SmallJoins
import Derived.Laws.AppendOwnNone
namespace Go.Proofs.YtpkmpinbpfblfaaGreatDoor.Hx
open Go.ChangeShapes Go.WideShapes Go.ChangeAt Go.RowKit
set_option linter.unusedVariables false
set_option maxRecDepth 100000
set_option maxRecDepth 100000

section
variable {P : Program} {ops : Array Oper} {Q : Exit → Act → World → Prop} {md : Region.Mode} {S : World → Prop}
theorem H.storeRow {i : Nat} {o : Oper} {fuel : Nat} {listed : Array Bool} {a : Act} {w : World} {ty : TypeId} {x y : Operand}
    (ho : ops[i]? = some o) (hw : Region.wanted o (yielded ops a.tmps) = true) (hd : o.dst = none) (hop : o.op = .store ty x y) (hr : Region.ready md ops listed = [i])
    (g : Nat) (cells : Array Value) (hx : a.eval x = .pointer (some ⟨g, 0, none⟩)) (hy : a.eval y = .agg cells) (t : TypeId) (old : Array Value) (hg : w.heap[g]? = some (.cells old t (0, 0)))
    (hi : (P.info? ty).map (·.size) = some cells.size) (hold : old.size = cells.size) (h1 : cells.all (·.oneCell') = true) (hS : S (w.setRow g cells))
    (h : wpAnyH P md ops Q S fuel (listed.setIfInBounds i true) a (w.setRow g cells)) : wpAnyH P md ops Q S (fuel + 1) listed a w := by
  refine wpAnyH_ready (rs := [i]) hr (by simp) ?_
  refine AllReadyH.cons ho (fun K hK => ?_) AllReadyH.nil
  rw [if_pos hw]
  refine wp_store_row ty x y hop g cells hx hy t old hg hi hold h1 ?_
  rw [hd]
  exact hK.out _ _ hS (fun _ => h)
end
theorem ex_built {P : Program} {o : Oper} {ρ : Operand → Value} {t : TypeId} {parts : Array (Nat × Operand)} {cells : Array Value} {w : World} (ho : o.op = .build t parts) (hc : P.built t (parts.map fun (i, x) => (i, ρ x)).toList = some cells) :
    (execOp ρ o).run P w = .ok (.value (.agg cells)) w := by
  unfold execOp
  simp only [ho, Sem.run_bind, run_build w t _ cells hc, Result.andThen_ok, Sem.run_pure]
theorem conv8 (n : Int) (h0 : 0 ≤ n) (h1 : n < 256) (W : World) : (convert 5 3 (.int .u8 n)).run Tryz.prog W = .ok (.int .i64 n) W := by
  rw [run_convert_int W 5 3 .u8 n (by rw [Tryz.underlying5]; rfl) Tryz.underlying3]
  have : (Tryz.prog.intKind 3).wrap n = n := by
    rw [show Tryz.prog.intKind 3 = .i64 by kernel_rfl]
    exact IntWalk.i64_in n (by omega)
  rw [this, show Tryz.prog.intKind 3 = .i64 by kernel_rfl]
end Go.Proofs.YtpkmpinbpfblfaaGreatDoor.Hx
namespace Go.Proofs.YtpkmpinbpfblfaaGreatDoor.Bk
open Go.ChangeShapes Go.WideShapes Go.ChangeAt Go.RowKit
open Go.Proofs.YtpkmpinbpfblfaaGreatDoor.Cur
open Go.Proofs.YtpkmpinbpfblfaaGreatDoor.Oct
set_option linter.unusedVariables false
set_option maxRecDepth 100000

theorem alloc_size (w : World) (o : Obj) : (w.alloc o).heap.size = w.heap.size + 1 := by show (w.heap.push o).size = _; simp
theorem below_setRow {B : Nat} {a w : World} (h : Below B a w) {g : Nat} (hg : B ≤ g) (cs : Array Value) : Below B a (w.setRow g cs) :=
  h.trans ⟨rfl, rfl, rfl, by simp, fun k hk => setRow_other w g k cs (by omega)⟩

/-- Block b holds the cells cs of a struct of type t. -/
def Bk (t : TypeId) (w : World) (b : Nat) (cs : Array Value) : Prop := w.heap[b]? = some (.cells cs t (0, 0))
section
variable {t : TypeId} {w w' : World} {b : Nat} {cs cs' : Array Value}
theorem Bk.lt (h : Bk t w b cs) : b < w.heap.size := (Array.getElem?_eq_some_iff.1 h).1
theorem Bk.below (h : Bk t w b cs) (hb : Below w.heap.size w w') : Bk t w' b cs := (hb.block b h.lt).trans h
theorem Bk.under {B : Nat} (h : Bk t w b cs) (hb : Below B w w') (hB : b < B) : Bk t w' b cs := (hb.block b hB).trans h
theorem Bk.new (t : TypeId) (w : World) (cs : Array Value) : Bk t (w.alloc (.cells cs t)) w.heap.size cs := heap_alloc_new w _
theorem Bk.old (h : Bk t w b cs) (o : Obj) : Bk t (w.alloc o) b cs := (heap_alloc_old w o h.lt).trans h
theorem Bk.row {g : Nat} (h : Bk t w b cs) (hn : b ≠ g) (cs' : Array Value) : Bk t (w.setRow g cs') b cs := (setRow_other w g b cs' hn).trans h
theorem Bk.put (h : Bk t w b cs) (cs' : Array Value) : Bk t (w.setRow b cs') b cs' := setRow_heap w b cs cs' _ _ h
theorem Bk.set {i : Nat} {v : Value} (h : Bk t w b cs) (hm : cs.setIfInBounds i v = cs') : Bk t (w.setCell ⟨b, i, none⟩ v) b cs' := by
  have := heap_setCell_same w b i cs t v h
  rw [hm] at this
  exact this
theorem Bk.off (h : Bk t w b cs) {p : Addr} (hn : b ≠ p.block) (v : Value) : Bk t (w.setCell p v) b cs := (heap_setCell_other w p b v hn).trans h
theorem Bk.drew (h : Bk t w b cs) : Bk t w.drew b cs := h
theorem Bk.cell (h : Bk t w b cs) (j : Nat) (v : Value) (hv : cs[j]? = some v) : w.cell? ⟨b, j, none⟩ = some v := by
  rw [cell_of_row w b j cs _ _ h, hv]
theorem Bk.frozen (h : Bk t w b cs) (j : Nat) : w.frozen? ⟨b, j, none⟩ = false := frozen_of_row w b j cs _ h
end

/-- ty is a struct of n cells. -/
def Sh (P : Program) (ty : TypeId) (n : Nat) : Prop := ∃ fs, P.underlying ty = some (.struct fs) ∧ (P.info? ty).map (·.size) = some n
section
variable {P : Program}
theorem wpList_loadK {ops : Array Oper} {rest : List Oper} {o : Oper} {a : Act} {w : World} {Q : Exit → Act → World → Prop} {ty tb : TypeId} {n : Nat} (hs : Sh P ty n)
    (hgd : o.guard = none) (x : Operand) (ho : o.op = .load ty x) {b : Nat} (hx : a.eval x = .pointer (some ⟨b, 0, none⟩)) {cs : Array Value} (hb : Bk tb w b cs) (hn : cs.size = n)
    (h : wpList P ops Q rest (a.put o.dst (.agg cs)) w) : wpList P ops Q (o :: rest) a w := by
  subst hn
  obtain ⟨d, h1, h3⟩ := hs
  exact wpList_load_row hgd ty x ho b hx tb cs (0, 0) _ hb h1 rfl h3 h
theorem wpList_storeK {ops : Array Oper} {rest : List Oper} {o : Oper} {a : Act} {w : World} {Q : Exit → Act → World → Prop} {ty tb : TypeId} {n : Nat} (hs : Sh P ty n)
    (hgd : o.guard = none) (x y : Operand) (ho : o.op = .store ty x y) {b : Nat} (hx : a.eval x = .pointer (some ⟨b, 0, none⟩)) {cs cs' : Array Value} (hy : a.eval y = .agg cs') (hb : Bk tb w b cs) (hn : cs.size = n) (hn' : cs'.size = n) (h1 : (cs'.all fun x => x.oneCell') = true)
    (h : wpList P ops Q rest (a.put o.dst undef) (w.setRow b cs')) : wpList P ops Q (o :: rest) a w := by
  obtain ⟨d, _, h3⟩ := hs
  exact wpList_store_row hgd ty x y ho b cs' hx hy tb cs hb (by rw [h3, hn']) (by rw [hn, hn']) h1 h
theorem wpList_builtK {ops : Array Oper} {rest : List Oper} {o : Oper} {a : Act} {w : World} {Q : Exit → Act → World → Prop} (hg : o.guard = none) (t : TypeId) (parts : Array (Nat × Operand)) (ho : o.op = .build t parts)
    (cells : Array Value) (hc : P.built t (parts.map fun (i, x) => (i, a.eval x)).toList = some cells)
    (h : wpList P ops Q rest (a.put o.dst (.agg cells)) w) : wpList P ops Q (o :: rest) a w :=
  wpList_build hg t parts ho (by rw [hc]; rfl) (by rw [hc]; exact h)
theorem loadVarK {w : World} {b n : Nat} {ty tb : TypeId} {cs : Array Value} (hs : Sh P ty n) (h : Bk tb w b cs) (hn : cs.size = n) : (loadVar ty ⟨b, 0, none⟩).run P w = .ok (.agg cs) w := by
  subst hn
  obtain ⟨d, h1, h3⟩ := hs
  exact run_loadVar_row w b tb ty cs (0, 0) _ h h1 rfl h3
theorem run_loadK {o : Oper} {ρ : Operand → Value} {x : Operand} {b n : Nat} {ty tb : TypeId} {cs : Array Value} {w : World} (hs : Sh P ty n) (ho : o.op = .load ty x) (hx : ρ x = .pointer (some ⟨b, 0, none⟩)) (hb : Bk tb w b cs) (hn : cs.size = n) :
    (execOp ρ o).run P w = .ok (.value (.agg cs)) w := by
  unfold execOp
  simp only [ho, hx, Instr.loadAt, Instr.sureAddr, Sem.run_bind, Sem.run_pure, Result.andThen_ok, loadVarK hs hb hn]
theorem results_pair {fn : Func} {p q : Nat} {ty : TypeId} (h : fn.results = #[.cell p ty, .tmp q]) (tmps : Array Value) (w : World) (g : Nat) (u : Value)
    (hp : tmps.getD p undef = .pointer (some ⟨g, 0, none⟩)) (hl : (loadVar ty ⟨g, 0, none⟩).run P w = .ok u w) (v : Value) (hv : tmps.getD q undef = v) :
    (results fn tmps).run P w = .ok (.tuple #[u, v]) w := by
  have hp' : tmps[p]?.getD undef = .pointer (some ⟨g, 0, none⟩) := by simpa using hp
  have hv' : tmps[q]?.getD undef = v := by simpa using hv
  simp [results, h, hp', hv', asAddr, hl]
theorem results_one {fn : Func} {p n : Nat} {ty tb : TypeId} (h : fn.results = #[.cell p ty]) (tmps : Array Value) (w : World) (g : Nat) (cs : Array Value)
    (hp : tmps.getD p undef = .pointer (some ⟨g, 0, none⟩)) (hs : Sh P ty n) (hb : Bk tb w g cs) (hn : cs.size = n) :
    (results fn tmps).run P w = .ok (.agg cs) w := by
  have hp' : tmps[p]?.getD undef = .pointer (some ⟨g, 0, none⟩) := by simpa using hp
  simp [results, h, hp', asAddr, loadVarK hs hb hn]
end

theorem shC : Sh Tryz.prog 61 4 := ⟨_, Tryz.underlying61, by kernel_rfl⟩
/-- A cursor's cells. -/
def cur (s : ByteArray) (a n : Int) (b : Bool) : Array Value := #[.string s, .int .i64 a, .int .i64 n, .bool b]
theorem cur_one (s : ByteArray) (a n : Int) (b : Bool) : ((cur s a n b).all fun x => x.oneCell') = true := by simp [cur, Value.oneCell']
end Go.Proofs.YtpkmpinbpfblfaaGreatDoor.Bk
namespace Go.Proofs.YtpkmpinbpfblfaaGreatDoor.Sx
open Go.ChangeShapes Go.WideShapes Go.ChangeAt Go.RowKit
open Go.Proofs.YtpkmpinbpfblfaaGreatDoor.Ms
open Go.Proofs.YtpkmpinbpfblfaaGreatDoor.Bk (Bk Sh)
set_option linter.unusedVariables false
set_option maxRecDepth 100000
set_option maxRecDepth 100000

/-- A Sub's cells. -/
def cellsS (x : El) : Array Value := #[.int .i64 x.2, .string x.1]
theorem oneS (x : El) : ((cellsS x).all fun x => x.oneCell') = true := by simp [cellsS, Value.oneCell']
theorem build_one (x : El) (w : World) : (Instr.buildSlice 41 1 #[(0, .agg (cellsS x))]).run Tryz.prog w = .ok (.slice (some ⟨w.heap.size, 0, none⟩) 1 1) (w.alloc (.cells (cellsS x) 73)) := by
  kernel_rfl
theorem ex_bs {o : Oper} {ρ : Operand → Value} {x : Operand} {m : El} {w : World} (ho : o.op = .buildSlice 41 1 #[(0, x)]) (hx : ρ x = .agg (cellsS m)) :
    (execOp ρ o).run Tryz.prog w = .ok (.value (.slice (some ⟨w.heap.size, 0, none⟩) 1 1)) (w.alloc (.cells (cellsS m) 73)) := by
  have e : ((#[(0, x)] : Array (Nat × Operand)).map fun (i, x) => (i, ρ x)) = #[(0, .agg (cellsS m))] := by simp [hx]
  unfold execOp
  simp only [ho, Sem.run_bind, e, build_one, Result.andThen_ok, Sem.run_pure]
theorem bs_one {ops : Array Oper} {rest : List Oper} {o : Oper} {a : Act} {w : World} {Q : Exit → Act → World → Prop} (hgd : o.guard = none) (x : Operand) (ho : o.op = .buildSlice 41 1 #[(0, x)])
    {m : El} (hx : a.eval x = .agg (cellsS m)) (h : wpList Tryz.prog ops Q rest (a.put o.dst (.slice (some ⟨w.heap.size, 0, none⟩) 1 1)) (w.alloc (.cells (cellsS m) 73))) : wpList Tryz.prog ops Q (o :: rest) a w :=
  wpList_plain hgd fun K hK => by
    unfold Oper.wp
    rw [ex_bs ho hx]
    exact hK _ _ h
theorem add_at (g o j : Nat) : (⟨g, o, none⟩ : Addr).add j = ⟨g, o + j, none⟩ := by
  unfold Addr.add
  split
  · rename_i h; rw [h]; rfl
  · rfl
/-- The cells of a list of Subs. -/
def rowS (l : List El) : List Value := l.flatMap fun x => (cellsS x).toList
theorem rowS_snoc (l : List El) (m : El) : rowS (l ++ [m]) = rowS l ++ (cellsS m).toList := by simp [rowS]
theorem rowS_at : ∀ (l : List El) (i j : Nat) (h : i < l.length), j < 2 → (rowS l)[i * 2 + j]? = ((cellsS l[i]).toList)[j]?
  | [], i, j, h, _ => absurd h (by simp)
  | m :: l, 0, j, h, hj => by
    have : rowS (m :: l) = (cellsS m).toList ++ rowS l := by simp [rowS]
    rw [this, Nat.zero_mul, Nat.zero_add, List.getElem?_append_left (by show j < (cellsS m).toList.length; exact hj)]
    rfl
  | m :: l, i + 1, j, h, hj => by
    have e : rowS (m :: l) = (cellsS m).toList ++ rowS l := by simp [rowS]
    have hl : (cellsS m).toList.length = 2 := rfl
    rw [e, List.getElem?_append_right (by rw [hl]; omega), hl, show (i + 1) * 2 + j - 2 = i * 2 + j by omega, rowS_at l i j (by simpa using h) hj]
    rfl
theorem infoS : ∃ i, Tryz.prog.info? 73 = some i ∧ i.zero = some (.agg #[.int .i64 0, .string ByteArray.empty]) ∧ i.size = 2 ∧ i.bytes ≤ 4096 := by
  have h : (Tryz.prog.info? 73).map (fun i => (i.zero, i.size, decide (i.bytes ≤ 4096))) = some (some (.agg #[.int .i64 0, .string ByteArray.empty]), 2, true) := by kernel_rfl
  obtain ⟨i, hi, hz⟩ := Option.map_eq_some_iff.1 h
  simp only [Prod.mk.injEq, decide_eq_true_eq] at hz
  exact ⟨i, hi, hz⟩

/-- The call's own list of the Subs l (what is new begins at block B). -/
def Lst (B : Nat) (w : World) (v : Value) (l : List El) : Prop := w.ownsRow B 73 2 v l.length (rowS l)
theorem Lst.nil (B : Nat) (w : World) : Lst B w (.slice none 0 0) [] := World.ownsRow_nil w B _ 2
theorem Lst.below {B : Nat} {w w' : World} {v : Value} {l : List El} (h : Lst B w v l) (hb : Below w.heap.size w w') : Lst B w' v l := by
  refine ⟨h.1, ?_⟩
  rcases h.2 with h | ⟨g, cap, cur, a, b, c, d⟩
  · exact .inl h
  · exact .inr ⟨g, cap, cur, a, b, (hb.block g (Array.getElem?_eq_some_iff.1 c).1).trans c, d⟩
theorem Lst.slice {B : Nat} {w : World} {v : Value} {l : List El} (h : Lst B w v l) : ∃ a c, v = .slice a l.length c := by
  rcases h.2 with ⟨hv, h0⟩ | ⟨g, cap, cur, hv, _⟩
  · exact ⟨none, 0, by rw [hv, h0]⟩
  · exact ⟨_, _, hv⟩
theorem Lst.row {B : Nat} {w : World} {a : Option Addr} {c : Nat} {l : List El} (h : Lst B w (.slice a l.length c) l) : SRow w a l := by
  intro i hi
  rcases h.2 with ⟨_, h0⟩ | ⟨g, cap, cur, hv, hb, hg, _⟩
  · omega
  · simp at hv
    obtain ⟨rfl, rfl⟩ := hv
    have hat : ∀ j v, j < 2 → ((cellsS l[i]).toList)[j]? = some v → w.cell? (((⟨g, 0, none⟩ : Addr).add (i * 2)).add j) = some v := fun j v hj hv => by
      have := World.ownsRow.cells h (g := g) rfl (i * 2 + j) v (by rw [rowS_at l i j hi hj]; exact hv)
      rw [add_at] at this
      rw [add_at, add_at, Nat.add_assoc]
      exact this
    exact ⟨⟨g, 0, none⟩, rfl, (Array.getElem?_eq_some_iff.1 hg).1, hat 0 _ (by decide) rfl, hat 1 _ (by decide) rfl⟩

theorem cells_new (m : El) (w : World) : ∀ j u, ((cellsS m).toList)[j]? = some u → (w.alloc (.cells (cellsS m) 73)).cell? ((⟨w.heap.size, 0, none⟩ : Addr).add j) = some u := by
  intro j u hu
  have := (Bk.Bk.new 73 w (cellsS m)).cell j u (by simpa using hu)
  rw [add_at, Nat.zero_add]
  exact this

theorem wp_app {o : Oper} {a : Act} {w : World} {Q : Exit → Act → World → Prop} {K : Act → World → Prop} (s x : Operand)
    (ho : o.op = .call { callee := .builtin .append, args := #[s, x], argTypes := #[41, 41] }) (B : Nat) (v : Value) (l : List El) (m : El) (g c : Nat)
    (hs : a.eval s = v) (hown : Lst B w v l) (hx : a.eval x = .slice (some ⟨g, 0, none⟩) 1 c) (hm : ∀ j u, ((cellsS m).toList)[j]? = some u → w.cell? ((⟨g, 0, none⟩ : Addr).add j) = some u)
    (hl : l.length ≤ 100000) (hB : B ≤ w.heap.size)
    (h : ∀ v' w', Lst B w' v' (l ++ [m]) → w.grownBy w' v.ownBlock → Below B w w' → K (a.put o.dst v') w') : Oper.wp Tryz.prog o a w K Q := by
  obtain ⟨i0, hi, hz, hsz, hby⟩ := infoS
  refine wp_append_own w s x 41 ho B 73 i0 (.agg #[.int .i64 0, .string ByteArray.empty]) 2 i0.bytes Tryz.underlying41 hi hz hsz rfl rfl (by decide) v l.length (rowS l) hs hown ⟨g, 0, none⟩ 1 c (cellsS m).toList hx rfl hm ?_ (by unfold maxLen; omega) ?_ hB ?_
  · intro u hu
    have := oneS m
    rw [Array.all_eq_true_iff_forall_mem] at this
    exact this u (by simpa using hu)
  · have : (l.length + 1) * i0.bytes ≤ 100001 * 4096 := Nat.mul_le_mul (by omega) hby
    omega
  · intro v' w' h2 h3 _
    refine h v' w' ?_ h3 ((Below.refl B w).grown h3 hB (fun k hk => (World.ownsRow.lt hown k hk).1))
    unfold Lst
    rw [rowS_snoc, List.length_append]
    exact h2
/-- append(v, m), behind the making of the list of m alone. -/
theorem app_one {ops : Array Oper} {rest : List Oper} {o : Oper} {a : Act} {w : World} {Q : Exit → Act → World → Prop} (hgd : o.guard = none) (s x : Operand)
    (ho : o.op = .call { callee := .builtin .append, args := #[s, x], argTypes := #[41, 41] }) (B : Nat) (v : Value) (l : List El) (m : El) (g c : Nat)
    (hs : a.eval s = v) (hown : Lst B w v l) (hx : a.eval x = .slice (some ⟨g, 0, none⟩) 1 c) (hm : ∀ j u, ((cellsS m).toList)[j]? = some u → w.cell? ((⟨g, 0, none⟩ : Addr).add j) = some u)
    (hl : l.length ≤ 100000) (hB : B ≤ w.heap.size)
    (h : ∀ v' w', Lst B w' v' (l ++ [m]) → Below B w w' → w.heap.size ≤ w'.heap.size → wpList Tryz.prog ops Q rest (a.put o.dst v') w') : wpList Tryz.prog ops Q (o :: rest) a w :=
  wpList_plain hgd fun K hK => wp_app s x ho B v l m g c hs hown hx hm hl hB fun v' w' h1 h2 h3 => hK _ _ (h v' w' h1 h3 h2.size)

section
variable {P : Program} {ops : Array Oper} {Q : Exit → Act → World → Prop} {md : Region.Mode} {S : World → Prop}
theorem H.one {i : Nat} {o : Oper} {fuel : Nat} {listed : Array Bool} {a : Act} {w : World}
    (ho : ops[i]? = some o) (hw : Region.wanted o (yielded ops a.tmps) = true) (hr : Region.ready md ops listed = [i])
    (h : ∀ K : Act → World → Prop, Hid (∀ a' w', S w' → wpAnyH P md ops Q S fuel (listed.setIfInBounds i true) a' w' → K a' w') → Oper.wp P o a w K Q) : wpAnyH P md ops Q S (fuel + 1) listed a w := by
  refine wpAnyH_ready (rs := [i]) hr (by simp) ?_
  refine AllReadyH.cons ho (fun K hK => ?_) AllReadyH.nil
  rw [if_pos hw]
  exact h K (Lib.hid (fun a' w' hS hW => hK.out a' w' hS (fun _ => hW)))
end
section
variable {ops : Array Oper} {Q : Exit → Act → World → Prop} {md : Region.Mode} {S : World → Prop}
/-- []api.Sub{m} -/
theorem H.bsS {i d : Nat} {o : Oper} {fuel : Nat} {listed : Array Bool} {a : Act} {w : World}
    (ho : ops[i]? = some o) (hw : Region.wanted o (yielded ops a.tmps) = true) (hr : Region.ready md ops listed = [i]) (hd : o.dst = some d)
    (x : Operand) (hop : o.op = .buildSlice 41 1 #[(0, x)]) {m : El} (hx : a.eval x = .agg (cellsS m)) (hS : S (w.alloc (.cells (cellsS m) 73)))
    (h : wpAnyH Tryz.prog md ops Q S fuel (listed.setIfInBounds i true) (a.put (some d) (.slice (some ⟨w.heap.size, 0, none⟩) 1 1)) (w.alloc (.cells (cellsS m) 73))) : wpAnyH Tryz.prog md ops Q S (fuel + 1) listed a w := by
  refine H.one ho hw hr (fun K hK => ?_)
  unfold Oper.wp
  rw [ex_bs hop hx]
  simp only [Oper.upon, hd]
  exact hK.out _ _ hS h
/-- append(v, m), behind the making of the list of m alone. -/
theorem H.appS {i d : Nat} {o : Oper} {fuel : Nat} {listed : Array Bool} {a : Act} {w : World}
    (ho : ops[i]? = some o) (hw : Region.wanted o (yielded ops a.tmps) = true) (hr : Region.ready md ops listed = [i]) (hd : o.dst = some d)
    (s x : Operand) (hop : o.op = .call { callee := .builtin .append, args := #[s, x], argTypes := #[41, 41] }) (B : Nat) (v : Value) (l : List El) (m : El) (g c : Nat)
    (hs : a.eval s = v) (hown : Lst B w v l) (hx : a.eval x = .slice (some ⟨g, 0, none⟩) 1 c) (hm : ∀ j u, ((cellsS m).toList)[j]? = some u → w.cell? ((⟨g, 0, none⟩ : Addr).add j) = some u)
    (hl : l.length ≤ 100000) (hB : B ≤ w.heap.size) (hS : ∀ w', w.grownBy w' v.ownBlock → S w')
    (h : ∀ v' w', Lst B w' v' (l ++ [m]) → w.grownBy w' v.ownBlock → Below B w w' → wpAnyH Tryz.prog md ops Q S fuel (listed.setIfInBounds i true) (a.put (some d) v') w') : wpAnyH Tryz.prog md ops Q S (fuel + 1) listed a w := by
  refine H.one ho hw hr (fun K hK => ?_)
  refine wp_app s x hop B v l m g c hs hown hx hm hl hB fun v' w' h1 h2 h3 => ?_
  rw [hd]
  exact hK.out _ _ (hS w' h2) (h v' w' h1 h2 h3)
end
end Go.Proofs.YtpkmpinbpfblfaaGreatDoor.Sx
namespace Go.Proofs.YtpkmpinbpfblfaaGreatDoor.An
open Go.ChangeShapes Go.WideShapes Go.ChangeAt Go.RowKit
open Go.Proofs.YtpkmpinbpfblfaaGreatDoor.Ms
open Go.Proofs.YtpkmpinbpfblfaaGreatDoor.Box
set_option linter.unusedVariables false
set_option maxRecDepth 100000
set_option maxRecDepth 100000
theorem lst_under {B g : Nat} {w : World} {v : Value} {l : List El} (h : Sx.Lst B w v l) (hg : g < B) (cs : Array Value) : Sx.Lst B (w.setRow g cs) v l := by
  refine ⟨h.1, ?_⟩
  rcases h.2 with h | ⟨k, cap, cur, a, b, c, d⟩
  · exact .inl h
  · exact .inr ⟨k, cap, cur, a, b, (setRow_other w g k cs (by omega)).trans c, d⟩
theorem lst_mono {B B' : Nat} {w : World} {v : Value} {l : List El} (h : Sx.Lst B w v l) (hB : B' ≤ B) : Sx.Lst B' w v l := by
  refine ⟨h.1, ?_⟩
  rcases h.2 with h | ⟨k, cap, cur, a, b, c, d⟩
  · exact .inl h
  · exact .inr ⟨k, cap, cur, a, Nat.le_trans hB b, c, d⟩
/-- The answer: a message (its Subs are the call's own), whether it counts, an error. -/
def AnsB (p : M × Bool × Int) (w : World) (e : Ending) (w' : World) : Prop :=
  ∃ sa sc, e = .returned (.tuple #[.agg (M.cells { p.1 with sa := sa, sc := sc }), .bool p.2.1, .int .i64 p.2.2]) ∧
    Sx.Lst w.heap.size w' (.slice sa p.1.sl.length sc) p.1.sl ∧ Below w.heap.size w w'
theorem AnsB.no {p : M × Bool × Int} {w w' : World} {d : Int} (h : p = (M.zero, false, d)) (hb : Below w.heap.size w w') : AnsB p w (.returned (.tuple #[.agg M.zero.cells, .bool false, .int .i64 d])) w' := by
  subst h
  exact ⟨none, 0, rfl, Sx.Lst.nil _ _, hb⟩
theorem AnsB.subs {p : M × Bool × Int} {w w' : World} {r : M} {a : Option Addr} {l : List El} {c B : Nat} (h : p = ({ r with sl := l }, true, 0)) (hl : Sx.Lst B w' (.slice a l.length c) l) (hB : w.heap.size ≤ B) (hb : Below w.heap.size w w') :
    AnsB p w (.returned (.tuple #[.agg (M.cells { r with sa := a, sl := l, sc := c }), .bool true, .int .i64 0])) w' := by
  subst h
  exact ⟨a, c, rfl, lst_mono hl hB, hb⟩
theorem results_three {fn : Func} {P : Program} {p q r : Nat} {ty : TypeId} (h : fn.results = #[.cell p ty, .tmp q, .tmp r]) (tmps : Array Value) (w : World) (g : Nat) (u : Value)
    (hp : tmps.getD p undef = .pointer (some ⟨g, 0, none⟩)) (hl : (loadVar ty ⟨g, 0, none⟩).run P w = .ok u w) (v : Value) (hv : tmps.getD q undef = v) (x : Value) (hx : tmps.getD r undef = x) :
    (results fn tmps).run P w = .ok (.tuple #[u, v, x]) w := by
  have hp' : tmps[p]?.getD undef = .pointer (some ⟨g, 0, none⟩) := by simpa using hp
  have hv' : tmps[q]?.getD undef = v := by simpa using hv
  have hx' : tmps[r]?.getD undef = x := by simpa using hx
  simp [results, h, hp', hv', hx', asAddr, hl]
theorem ret3 {fn : Func} {p q r : Nat} (h : fn.results = #[.cell p 43, .tmp q, .tmp r]) (tmps : Array Value) (w : World) (g : Nat) (m : M)
    (hp : tmps.getD p undef = .pointer (some ⟨g, 0, none⟩)) (hm : Bx w g m) (v : Value) (hv : tmps.getD q undef = v) (x : Value) (hx : tmps.getD r undef = x) :
    (results fn tmps).run Tryz.prog w = .ok (.tuple #[.agg m.cells, v, x]) w := results_three h tmps w g _ hp (Own.loadVarM hm) v hv x hx
/-- n is m, but for where its Subs stand. -/
def Pl (n m : M) : Prop := n = { m with sa := n.sa, sc := n.sc }
theorem Pl.same {n n' m m' : M} (h : Pl n m) (h' : Pl n' m') : M.same n n' = M.same m m' := by
  rw [show n = _ from h, show n' = _ from h']
  rfl
theorem Pl.sl {n m : M} (h : Pl n m) : n.sl = m.sl := by rw [show n = _ from h]
theorem Pl.refl (m : M) : Pl m m := rfl
end Go.Proofs.YtpkmpinbpfblfaaGreatDoor.An
namespace Go.Proofs.YtpkmpinbpfblfaaGreatDoor.All
open Go.ChangeShapes Go.WideShapes Go.ChangeAt Go.RowKit
open Go.Proofs.YtpkmpinbpfblfaaGreatDoor.Ms
open Go.Proofs.YtpkmpinbpfblfaaGreatDoor.Box
open Go.Proofs.YtpkmpinbpfblfaaGreatDoor.Same
open Go.Proofs.YtpkmpinbpfblfaaGreatDoor.SameP
open Go.Proofs.YtpkmpinbpfblfaaGreatDoor.RSame
open Go.Proofs.YtpkmpinbpfblfaaGreatDoor.Hs
set_option linter.unusedVariables false
set_option maxRecDepth 100000

/-- The messages of a list stand in w. -/
def MRow (w : World) (a : Option Addr) (l : List M) : Prop :=
  ∀ i (h : i < l.length), ∃ p, a = some p ∧ p.block < w.heap.size ∧ (∀ j v, (l[i].cells.toList)[j]? = some v → w.cell? ((p.add (i * 25)).add j) = some v) ∧ DRow w l[i].la l[i].ll ∧ SRow w l[i].sa l[i].sl
theorem MRow.below {w w' : World} {a : Option Addr} {l : List M} (h : MRow w a l) (hb : Below w.heap.size w w') : MRow w' a l := by
  intro i hi
  obtain ⟨p, h1, h2, h3, h4, h5⟩ := h i hi
  refine ⟨p, h1, Nat.lt_of_lt_of_le h2 hb.size, fun j v hv => ?_, h4.below hb, h5.below hb⟩
  rw [hb.cell (by rw [add_block, add_block]; exact h2)]
  exact h3 j v hv
/-- No list within is long. -/
def Short (m : M) : Prop := m.ll.length ≤ 1048576 ∧ m.sl.length ≤ 1048576

theorem loadVarA {w : World} {q : Addr} {m : M} (h : ∀ j v, (m.cells.toList)[j]? = some v → w.cell? (q.add j) = some v) : (loadVar 43 q).run Tryz.prog w = .ok (.agg m.cells) w := by
  have hl : (loadCells q 25).run Tryz.prog w = .ok m.cells w := by
    have := run_loadCells_list (P := Tryz.prog) w q m.cells.toList h
    rw [show m.cells.toList.length = 25 from rfl] at this
    rw [this]
  have hagg : (isAgg 43).run Tryz.prog w = .ok true w := by go_simp
  have hsz : (sizeOf 43).run Tryz.prog w = .ok 25 w := by go_simp
  simp only [loadVar, Sem.run_bind, hagg, Result.andThen_ok, if_true, hsz, hl, Sem.run_pure]
theorem ex_loadA {o : Oper} {ρ : Operand → Value} {x : Operand} {q : Addr} {m : M} {w : World} (ho : o.op = .load 43 x) (hx : ρ x = .pointer (some q)) (h : ∀ j v, (m.cells.toList)[j]? = some v → w.cell? (q.add j) = some v) :
    (execOp ρ o).run Tryz.prog w = .ok (.value (.agg m.cells)) w := by
  unfold execOp
  simp only [ho, hx, Instr.loadAt, Instr.sureAddr, Sem.run_bind, Sem.run_pure, Result.andThen_ok, loadVarA h]
theorem indexM (p : Addr) (n c i : Nat) (h : i < n) (W : World) : (Instr.indexAt 23 (.slice (some p) n c) (.int .i64 (i : Int))).run Tryz.prog W = .ok (.pointer (some (p.add (i * 25)))) W := by
  have he : Tryz.prog.elem 23 = 43 := by simp [Program.elem, Tryz.underlying23]
  have hz : (sizeOf 43).run Tryz.prog W = .ok 25 W := by go_simp
  rw [run_indexAt_slice W 23 p n c .i64 (i : Int) (by rw [he]; exact Tryz.underlying23), if_pos (by omega), he, hz]
  rfl

open Classical in
/-- Are the lists the same? -/
noncomputable def sameL (x y : List M) : Bool := decide (x.length = y.length ∧ ∀ i (hx : i < x.length) (hy : i < y.length), M.same x[i] y[i] = true)
theorem sameL_yes {x y : List M} (hl : x.length = y.length) (h : ∀ i (hx : i < x.length) (hy : i < y.length), M.same x[i] y[i] = true) : sameL x y = true := by unfold sameL; exact decide_eq_true ⟨hl, h⟩
theorem sameL_len {x y : List M} (hl : x.length ≠ y.length) : sameL x y = false := by unfold sameL; exact decide_eq_false fun h => hl h.1
theorem sameL_at {x y : List M} {k : Nat} (hx : k < x.length) (hy : k < y.length) (h : M.same x[k] y[k] = false) : sameL x y = false := by
  unfold sameL
  exact decide_eq_false fun h2 => by have := h2.2 k hx hy; rw [h] at this; cases this
theorem same_refl (m : M) : M.same m m = true := by simp [M.same, M.flatE]

theorem ex_indexM {o : Oper} {ρ : Operand → Value} {x y : Operand} {p : Addr} {n c i : Nat} {w : World} (ho : o.op = .indexAddr 23 x y) (hx : ρ x = .slice (some p) n c) (hy : ρ y = .int .i64 (i : Int)) (h : i < n) :
    (execOp ρ o).run Tryz.prog w = .ok (.value (.pointer (some (p.add (i * 25))))) w := by
  unfold execOp
  simp only [ho, hx, hy, Sem.run_bind, indexM p n c i h, Result.andThen_ok, Sem.run_pure]

/-- What stays in the document's round. -/
def S3 (w : World) (p q : Addr) (u v : M) (W : World) : Prop := (∀ j x, (u.cells.toList)[j]? = some x → W.cell? (p.add j) = some x) ∧ (∀ j x, (v.cells.toList)[j]? = some x → W.cell? (q.add j) = some x) ∧ u.In W ∧ v.In W ∧ p.block < W.heap.size ∧ q.block < W.heap.size ∧ Below w.heap.size w W
theorem S3.keep {w : World} {p q : Addr} {u v : M} (W w1 : World) (h : S3 w p q u v W) (hb : Below W.heap.size W w1) : S3 w p q u v w1 :=
  ⟨fun j x hx => (hb.cell (p := p.add j) (by rw [add_block]; exact h.2.2.2.2.1)).trans (h.1 j x hx), fun j x hx => (hb.cell (p := q.add j) (by rw [add_block]; exact h.2.2.2.2.2.1)).trans (h.2.1 j x hx), h.2.2.1.below hb, h.2.2.2.1.below hb, Nat.lt_of_lt_of_le h.2.2.2.2.1 hb.size, Nat.lt_of_lt_of_le h.2.2.2.2.2.1 hb.size, bcall h.2.2.2.2.2.2 hb⟩

set_option maxHeartbeats 3200000 in
theorem rsameAll_any (a b : Option Addr) (ca cb : Nat) (x y : List M) (w : World) (hx : MRow w a x) (hy : MRow w b y) (sx : ∀ m ∈ x, Short m) (sy : ∀ m ∈ y, Short m) (lx : x.length ≤ 1048576) (ly : y.length ≤ 1048576) :
    Calls Tryz.prog 8 #[.slice a x.length ca, .slice b y.length cb] w fun e w' => e = .returned (.bool (sameL x y)) ∧ Below w.heap.size w w' := by
  by_cases hl : x.length = y.length
  · have HL := Lib.hid hl
    go_enter Tryz.func8, Tryz.ntmps8
    go_wp2
    go_loopw [5] (fun i wr => ∃ k : Nat, k ≤ x.length ∧ i = .int .i64 k ∧ Hid (∀ i, i < k → ∀ (hx : i < x.length) (hy : i < y.length), M.same x[i] y[i] = true) ∧ Hid (Below w.heap.size w wr)) (fun i _ => x.length - (intOf i).toNat)
    case atStart => exact ⟨0, Nat.zero_le _, rfl, Lib.hid (fun i hi => absurd hi (by omega)), Lib.hid (Below.refl _ _)⟩
    case round =>
      obtain ⟨k, hk, rfl, HT, HB⟩ := hrel
      by_cases hlt : k < x.length
      · have hlt2 : k < y.length := by omega
        obtain ⟨p, rfl, hp, hc, hcd, hcs⟩ := (hx.below HB.out) k hlt
        obtain ⟨q, rfl, hq, hd, hdd, hds⟩ := (hy.below HB.out) k hlt2
        have hsx := sx _ (List.getElem_mem hlt)
        have hsy := sy _ (List.getElem_mem hlt2)
        have HN := Lib.hid (fun h => sameL_at (x := x) (y := y) (k := k) hlt hlt2 h)
        have HS := Lib.hid (fun (h : M.same x[k] y[k] = true) => show ∀ i, i < k + 1 → ∀ (hx : i < x.length) (hy : i < y.length), M.same x[i] y[i] = true from fun i hi h1 h2 => by
          by_cases hik : i < k
          · exact HT.out i hik h1 h2
          · obtain rfl : i = k := by omega
            exact h)
        have H0 := Lib.hid (show S3 w (p.add (k * 25)) (q.add (k * 25)) x[k] y[k] wr.drew from S3.keep wr _ ⟨hc, hd, ⟨hcd, hcs, hsx.1, hsx.2⟩, ⟨hdd, hds, hsy.1, hsy.2⟩, by rw [add_block]; exact hp, by rw [add_block]; exact hq, HB.out⟩ (Below.refl _ _).drew)
        have P := Lib.hid (fun W (h : S3 w (p.add (k * 25)) (q.add (k * 25)) x[k] y[k] W) => heldP (S3 w (p.add (k * 25)) (q.add (k * 25)) x[k] y[k]) S3.keep (rsame_any x[k] y[k] W h.2.2.1 h.2.2.2.1) h)
        clear HT hx hy sx sy hc hd hcd hcs hdd hds hsx hsy hp hq hl HB
        generalize x[k] = u at *
        generalize y[k] = v at *
        cases hs : M.same u v
        · have HN1 := Lib.hid (HN.out hs)
          rw [hs] at P
          clear hs HN HS
          go_upto_region 6 with fail
          refine wp_region_held_drew (S := S3 w (p.add (k * 25)) (q.add (k * 25)) u v) (by kernel_rfl) H0.out (fun hS => ?_)
          clear H0
          generalize wr.drew = w0 at *
          refine H.tk (i := 0) (v := ?v0) ?h0 hS ?_
          case h0 => (intro w hw; go_simp; first | done | (with_reducible rfl))
          try simp only [Act.put, List.setIfInBounds_toArray, List.set_cons_zero, List.set_cons_succ]
          refine H.tk (i := 1) (v := ?v1) ?h1 hS ?_
          case h1 => (intro w hw; go_simp; first | done | (with_reducible rfl))
          try simp only [Act.put, List.setIfInBounds_toArray, List.set_cons_zero, List.set_cons_succ]
          refine H.tk (i := 2) (v := .pointer (some (p.add (k * 25)))) ?h2 hS ?_
          case h2 => exact fun w _ => ex_indexM (x := .tmp 17) (y := .tmp 18) rfl rfl rfl hlt
          try simp only [Act.put, List.setIfInBounds_toArray, List.set_cons_zero, List.set_cons_succ]
          refine H.tk (i := 3) (v := .agg (M.cells u)) ?h3 hS ?_
          case h3 => exact fun w hw => ex_loadA (x := .tmp 19) rfl rfl hw.1
          try simp only [Act.put, List.setIfInBounds_toArray, List.set_cons_zero, List.set_cons_succ]
          refine H.tk (i := 4) (v := ?v4) ?h4 hS ?_
          case h4 => (intro w hw; go_simp; first | done | (with_reducible rfl))
          try simp only [Act.put, List.setIfInBounds_toArray, List.set_cons_zero, List.set_cons_succ]
          refine H.tk (i := 5) (v := ?v5) ?h5 hS ?_
          case h5 => (intro w hw; go_simp; first | done | (with_reducible rfl))
          try simp only [Act.put, List.setIfInBounds_toArray, List.set_cons_zero, List.set_cons_succ]
          refine H.tk (i := 6) (v := .pointer (some (q.add (k * 25)))) ?h6 hS ?_
          case h6 => exact fun w _ => ex_indexM (x := .tmp 21) (y := .tmp 22) rfl rfl rfl hlt2
          try simp only [Act.put, List.setIfInBounds_toArray, List.set_cons_zero, List.set_cons_succ]
          refine H.tk (i := 7) (v := .agg (M.cells v)) ?h7 hS ?_
          case h7 => exact fun w hw => ex_loadA (x := .tmp 23) rfl rfl hw.2.1
          try simp only [Act.put, List.setIfInBounds_toArray, List.set_cons_zero, List.set_cons_succ]
          refine wpAnyH_ready (rs := [8]) (by kernel_rfl) (by simp) ?_
          refine AllReadyH.cons rfl (fun K hK => ?_) AllReadyH.nil
          go_simp
          refine (P.out _ hS).mono ?_
          rintro e w8 ⟨rfl, hS8⟩
          refine hK.out _ _ hS8 (fun _ => ?_)
          clear hK K hS
          have hS := hS8
          clear hS8
          try simp only [Act.put, List.setIfInBounds_toArray, List.set_cons_zero, List.set_cons_succ]
          refine H.tk (i := 9) (v := (.bool true)) (fun w _ => rfl) hS ?_
          try simp only [Act.put, List.setIfInBounds_toArray, List.set_cons_zero, List.set_cons_succ]
          refine wpAnyH_done (by kernel_rfl) ?_ _
          go_wp2
          go_ret
          exact ⟨bool_eq (by rw [HN1.out]), hS.2.2.2.2.2.2⟩
        · have HS1 := Lib.hid (HS.out hs)
          rw [hs] at P
          clear hs HN HS
          go_upto_region 6 with fail
          refine wp_region_held_drew (S := S3 w (p.add (k * 25)) (q.add (k * 25)) u v) (by kernel_rfl) H0.out (fun hS => ?_)
          clear H0
          generalize wr.drew = w0 at *
          refine H.tk (i := 0) (v := ?v0) ?h0 hS ?_
          case h0 => (intro w hw; go_simp; first | done | (with_reducible rfl))
          try simp only [Act.put, List.setIfInBounds_toArray, List.set_cons_zero, List.set_cons_succ]
          refine H.tk (i := 1) (v := ?v1) ?h1 hS ?_
          case h1 => (intro w hw; go_simp; first | done | (with_reducible rfl))
          try simp only [Act.put, List.setIfInBounds_toArray, List.set_cons_zero, List.set_cons_succ]
          refine H.tk (i := 2) (v := .pointer (some (p.add (k * 25)))) ?h2 hS ?_
          case h2 => exact fun w _ => ex_indexM (x := .tmp 17) (y := .tmp 18) rfl rfl rfl hlt
          try simp only [Act.put, List.setIfInBounds_toArray, List.set_cons_zero, List.set_cons_succ]
          refine H.tk (i := 3) (v := .agg (M.cells u)) ?h3 hS ?_
          case h3 => exact fun w hw => ex_loadA (x := .tmp 19) rfl rfl hw.1
          try simp only [Act.put, List.setIfInBounds_toArray, List.set_cons_zero, List.set_cons_succ]
          refine H.tk (i := 4) (v := ?v4) ?h4 hS ?_
          case h4 => (intro w hw; go_simp; first | done | (with_reducible rfl))
          try simp only [Act.put, List.setIfInBounds_toArray, List.set_cons_zero, List.set_cons_succ]
          refine H.tk (i := 5) (v := ?v5) ?h5 hS ?_
          case h5 => (intro w hw; go_simp; first | done | (with_reducible rfl))
          try simp only [Act.put, List.setIfInBounds_toArray, List.set_cons_zero, List.set_cons_succ]
          refine H.tk (i := 6) (v := .pointer (some (q.add (k * 25)))) ?h6 hS ?_
          case h6 => exact fun w _ => ex_indexM (x := .tmp 21) (y := .tmp 22) rfl rfl rfl hlt2
          try simp only [Act.put, List.setIfInBounds_toArray, List.set_cons_zero, List.set_cons_succ]
          refine H.tk (i := 7) (v := .agg (M.cells v)) ?h7 hS ?_
          case h7 => exact fun w hw => ex_loadA (x := .tmp 23) rfl rfl hw.2.1
          try simp only [Act.put, List.setIfInBounds_toArray, List.set_cons_zero, List.set_cons_succ]
          refine wpAnyH_ready (rs := [8]) (by kernel_rfl) (by simp) ?_
          refine AllReadyH.cons rfl (fun K hK => ?_) AllReadyH.nil
          go_simp
          refine (P.out _ hS).mono ?_
          rintro e w8 ⟨rfl, hS8⟩
          refine hK.out _ _ hS8 (fun _ => ?_)
          clear hK K hS
          have hS := hS8
          clear hS8
          try simp only [Act.put, List.setIfInBounds_toArray, List.set_cons_zero, List.set_cons_succ]
          refine H.tk (i := 9) (v := (.bool false)) (fun w _ => rfl) hS ?_
          try simp only [Act.put, List.setIfInBounds_toArray, List.set_cons_zero, List.set_cons_succ]
          refine wpAnyH_done (by kernel_rfl) ?_ _
          have HB3 := Lib.hid hS.2.2.2.2.2.2
          clear hS
          go_wp2
          go_roundw
          case rel => exact ⟨k + 1, hlt, by go_num, HS1, HB3⟩
          case measure => simp [intOf]; omega
      · obtain rfl : k = x.length := by omega
        have he : sameL x y = true := sameL_yes HL.out (fun i h1 h2 => HT.out i h1 h1 h2)
        have HE := Lib.hid he
        clear he
        go_wp2
        go_ret
        exact ⟨bool_eq (by rw [HE.out]), HB.out⟩
  · go_enter Tryz.func8, Tryz.ntmps8
    go_wp2
    go_ret
    exact ⟨bool_eq (sameL_len hl).symm, Below.refl _ _⟩
end Go.Proofs.YtpkmpinbpfblfaaGreatDoor.All
namespace Go.Proofs.YtpkmpinbpfblfaaGreatDoor.Ap
open Go.ChangeShapes Go.WideShapes Go.ChangeAt Go.RowKit
open Go.Proofs.YtpkmpinbpfblfaaGreatDoor.Ms
open Go.Proofs.YtpkmpinbpfblfaaGreatDoor.Box
open Go.Proofs.YtpkmpinbpfblfaaGreatDoor.All
set_option linter.unusedVariables false
set_option maxRecDepth 100000
set_option maxRecDepth 100000

theorem build_one (m : M) (w : World) : (Instr.buildSlice 23 1 #[(0, .agg m.cells)]).run Tryz.prog w = .ok (.slice (some ⟨w.heap.size, 0, none⟩) 1 1) (w.alloc (.cells m.cells 43)) := by
  kernel_rfl
theorem ex_bs {o : Oper} {ρ : Operand → Value} {x : Operand} {m : M} {w : World} (ho : o.op = .buildSlice 23 1 #[(0, x)]) (hx : ρ x = .agg m.cells) :
    (execOp ρ o).run Tryz.prog w = .ok (.value (.slice (some ⟨w.heap.size, 0, none⟩) 1 1)) (w.alloc (.cells m.cells 43)) := by
  have e : ((#[(0, x)] : Array (Nat × Operand)).map fun (i, x) => (i, ρ x)) = #[(0, .agg m.cells)] := by simp [hx]
  unfold execOp
  simp only [ho, Sem.run_bind, e, build_one, Result.andThen_ok, Sem.run_pure]
theorem bs_one {ops : Array Oper} {rest : List Oper} {o : Oper} {a : Act} {w : World} {Q : Exit → Act → World → Prop} (hgd : o.guard = none) (x : Operand) (ho : o.op = .buildSlice 23 1 #[(0, x)])
    {m : M} (hx : a.eval x = .agg m.cells) (h : wpList Tryz.prog ops Q rest (a.put o.dst (.slice (some ⟨w.heap.size, 0, none⟩) 1 1)) (w.alloc (.cells m.cells 43))) : wpList Tryz.prog ops Q (o :: rest) a w :=
  wpList_plain hgd fun K hK => by
    unfold Oper.wp
    rw [ex_bs ho hx]
    exact hK _ _ h
theorem add_at (g o j : Nat) : (⟨g, o, none⟩ : Addr).add j = ⟨g, o + j, none⟩ := by
  unfold Addr.add
  split
  · rename_i h; rw [h]; rfl
  · rfl
/-- The cells of a list of messages. -/
def rowC (l : List M) : List Value := l.flatMap fun m => m.cells.toList
theorem rowC_len (l : List M) : (rowC l).length = l.length * 25 := by
  induction l with
  | nil => rfl
  | cons m l ih =>
    have : rowC (m :: l) = m.cells.toList ++ rowC l := by simp [rowC]
    rw [this, List.length_append, ih, List.length_cons]
    have : m.cells.toList.length = 25 := rfl
    omega
theorem rowC_at : ∀ (l : List M) (i j : Nat) (h : i < l.length), j < 25 → (rowC l)[i * 25 + j]? = (l[i].cells.toList)[j]?
  | [], i, j, h, _ => absurd h (by simp)
  | m :: l, 0, j, h, hj => by
    have : rowC (m :: l) = m.cells.toList ++ rowC l := by simp [rowC]
    rw [this, Nat.zero_mul, Nat.zero_add, List.getElem?_append_left (by show j < m.cells.toList.length; exact hj)]
    rfl
  | m :: l, i + 1, j, h, hj => by
    have e : rowC (m :: l) = m.cells.toList ++ rowC l := by simp [rowC]
    have hl : m.cells.toList.length = 25 := rfl
    rw [e, List.getElem?_append_right (by rw [hl]; omega), hl, show (i + 1) * 25 + j - 25 = i * 25 + j by omega, rowC_at l i j (by simpa using h) hj]
    rfl
theorem infoA : ∃ i, Tryz.prog.info? 43 = some i ∧ i.zero = some (.agg M.zero.cells) ∧ i.size = 25 ∧ i.bytes ≤ 4096 := by
  have h : (Tryz.prog.info? 43).map (fun i => (i.zero, i.size, decide (i.bytes ≤ 4096))) = some (some (.agg M.zero.cells), 25, true) := by kernel_rfl
  obtain ⟨i, hi, hz⟩ := Option.map_eq_some_iff.1 h
  simp only [Prod.mk.injEq, decide_eq_true_eq] at hz
  exact ⟨i, hi, hz⟩

/-- The call's own list of the messages l (what is new begins at block B). -/
def Lst (B : Nat) (w : World) (v : Value) (l : List M) : Prop := w.ownsRow B 43 25 v l.length (rowC l)
theorem Lst.nil (B : Nat) (w : World) : Lst B w (.slice none 0 0) [] := World.ownsRow_nil w B _ 25
theorem Lst.below {B : Nat} {w w' : World} {v : Value} {l : List M} (h : Lst B w v l) (hb : Below w.heap.size w w') : Lst B w' v l := by
  refine ⟨h.1, ?_⟩
  rcases h.2 with h | ⟨g, cap, cur, a, b, c, d⟩
  · exact .inl h
  · exact .inr ⟨g, cap, cur, a, b, (hb.block g (Array.getElem?_eq_some_iff.1 c).1).trans c, d⟩
theorem Lst.slice {B : Nat} {w : World} {v : Value} {l : List M} (h : Lst B w v l) : ∃ a c, v = .slice a l.length c := by
  rcases h.2 with ⟨hv, h0⟩ | ⟨g, cap, cur, hv, _⟩
  · exact ⟨none, 0, by rw [hv, h0]⟩
  · exact ⟨_, _, hv⟩
theorem cells_new (m : M) (w : World) : ∀ j u, (m.cells.toList)[j]? = some u → (w.alloc (.cells m.cells 43)).cell? ((⟨w.heap.size, 0, none⟩ : Addr).add j) = some u := by
  intro j u hu
  have := (Bx.new w m).cell j u (by simpa using hu)
  rw [add_at, Nat.zero_add]
  exact this

end Go.Proofs.YtpkmpinbpfblfaaGreatDoor.Ap
namespace Go.Proofs.YtpkmpinbpfblfaaGreatDoor.Hy
open Go.ChangeShapes Go.WideShapes Go.ChangeAt Go.RowKit
open Go.Proofs.YtpkmpinbpfblfaaGreatDoor.Ms
set_option linter.unusedVariables false
set_option maxRecDepth 100000
set_option maxRecDepth 100000
section
variable {P : Program} {ops : Array Oper} {Q : Exit → Act → World → Prop} {md : Region.Mode} {S : World → Prop}
theorem H.one {i : Nat} {o : Oper} {fuel : Nat} {listed : Array Bool} {a : Act} {w : World}
    (ho : ops[i]? = some o) (hw : Region.wanted o (yielded ops a.tmps) = true) (hr : Region.ready md ops listed = [i])
    (h : ∀ K : Act → World → Prop, Hid (∀ a' w', S w' → wpAnyH P md ops Q S fuel (listed.setIfInBounds i true) a' w' → K a' w') → Oper.wp P o a w K Q) : wpAnyH P md ops Q S (fuel + 1) listed a w := by
  refine wpAnyH_ready (rs := [i]) hr (by simp) ?_
  refine AllReadyH.cons ho (fun K hK => ?_) AllReadyH.nil
  rw [if_pos hw]
  exact h K (Lib.hid (fun a' w' hS hW => hK.out a' w' hS (fun _ => hW)))
theorem H.two {i j : Nat} {o o' : Oper} {fuel : Nat} {listed : Array Bool} {a : Act} {w : World}
    (ho : ops[i]? = some o) (hw : Region.wanted o (yielded ops a.tmps) = true) (ho' : ops[j]? = some o') (hw' : Region.wanted o' (yielded ops a.tmps) = true) (hr : Region.ready md ops listed = [i, j])
    (h : ∀ K : Act → World → Prop, Hid (∀ a' w', S w' → wpAnyH P md ops Q S fuel (listed.setIfInBounds i true) a' w' → K a' w') → Oper.wp P o a w K Q)
    (h' : ∀ K : Act → World → Prop, Hid (∀ a' w', S w' → wpAnyH P md ops Q S fuel (listed.setIfInBounds j true) a' w' → K a' w') → Oper.wp P o' a w K Q) : wpAnyH P md ops Q S (fuel + 1) listed a w := by
  refine wpAnyH_ready (rs := [i, j]) hr (by simp) ?_
  refine AllReadyH.cons ho (fun K hK => ?_) (AllReadyH.cons ho' (fun K hK => ?_) AllReadyH.nil)
  · rw [if_pos hw]
    exact h K (Lib.hid (fun a' w' hS hW => hK.out a' w' hS (fun _ => hW)))
  · rw [if_pos hw']
    exact h' K (Lib.hid (fun a' w' hS hW => hK.out a' w' hS (fun _ => hW)))
theorem wp_valW {o : Oper} {a : Act} {w w' : World} {K : Act → World → Prop} {d : Nat} {v : Value} (hd : o.dst = some d) (hy : (execOp a.eval o).run P w = .ok (.value v) w') (h : K (a.put (some d) v) w') : Oper.wp P o a w K Q := by
  unfold Oper.wp
  rw [hy]
  simp only [Oper.upon, hd]
  exact h
end
end Go.Proofs.YtpkmpinbpfblfaaGreatDoor.Hy
namespace Go.Proofs.YtpkmpinbpfblfaaGreatDoor.Tl
open Go.ChangeShapes Go.WideShapes Go.ChangeAt Go.RowKit
open Go.Proofs.YtpkmpinbpfblfaaGreatDoor.F1
open Go.Proofs.YtpkmpinbpfblfaaGreatDoor.Bk (Bk Sh)
open Go.Proofs.YtpkmpinbpfblfaaGreatDoor.Hy (H.one)
set_option linter.unusedVariables false
set_option maxRecDepth 100000
set_option maxRecDepth 100000

/-- The TLVs of a list stand in w. -/
def TRow (w : World) (a : Option Addr) (l : List T) : Prop :=
  ∀ i (h : i < l.length), ∃ p, a = some p ∧ p.block < w.heap.size ∧ w.cell? (p.add (i * 3)) = some (.int .i64 l[i].2.2) ∧ w.cell? ((p.add (i * 3)).add 1) = some (.int .i64 l[i].1) ∧ w.cell? ((p.add (i * 3)).add 2) = some (.string l[i].2.1)
theorem add_block (p : Addr) (n : Nat) : (p.add n).block = p.block := by unfold Addr.add; split <;> rfl
theorem TRow.below {w w' : World} {a : Option Addr} {l : List T} (h : TRow w a l) (hb : Below w.heap.size w w') : TRow w' a l := by
  intro i hi
  obtain ⟨p, h1, h2, h3, h4, h5⟩ := h i hi
  refine ⟨p, h1, Nat.lt_of_lt_of_le h2 hb.size, ?_, ?_, ?_⟩
  · rw [hb.cell (by rw [add_block]; exact h2)]; exact h3
  · rw [hb.cell (by rw [add_block, add_block]; exact h2)]; exact h4
  · rw [hb.cell (by rw [add_block, add_block]; exact h2)]; exact h5
theorem TRow.nil (w : World) (a : Option Addr) : TRow w a [] := fun i hi => absurd hi (by simp)
/-- A TLV's cells. -/
def cellsT (x : T) : Array Value := #[.int .i64 x.2.2, .int .i64 x.1, .string x.2.1]
theorem oneT (x : T) : ((cellsT x).all fun x => x.oneCell') = true := by simp [cellsT, Value.oneCell']
theorem shT : Sh Tryz.prog 31 3 := ⟨_, Tryz.underlying31, by kernel_rfl⟩
theorem build_one (x : T) (w : World) : (Instr.buildSlice 29 1 #[(0, .agg (cellsT x))]).run Tryz.prog w = .ok (.slice (some ⟨w.heap.size, 0, none⟩) 1 1) (w.alloc (.cells (cellsT x) 31)) := by
  kernel_rfl
theorem ex_bs {o : Oper} {ρ : Operand → Value} {x : Operand} {m : T} {w : World} (ho : o.op = .buildSlice 29 1 #[(0, x)]) (hx : ρ x = .agg (cellsT m)) :
    (execOp ρ o).run Tryz.prog w = .ok (.value (.slice (some ⟨w.heap.size, 0, none⟩) 1 1)) (w.alloc (.cells (cellsT m) 31)) := by
  have e : ((#[(0, x)] : Array (Nat × Operand)).map fun (i, x) => (i, ρ x)) = #[(0, .agg (cellsT m))] := by simp [hx]
  unfold execOp
  simp only [ho, Sem.run_bind, e, build_one, Result.andThen_ok, Sem.run_pure]
theorem bs_one {ops : Array Oper} {rest : List Oper} {o : Oper} {a : Act} {w : World} {Q : Exit → Act → World → Prop} (hgd : o.guard = none) (x : Operand) (ho : o.op = .buildSlice 29 1 #[(0, x)])
    {m : T} (hx : a.eval x = .agg (cellsT m)) (h : wpList Tryz.prog ops Q rest (a.put o.dst (.slice (some ⟨w.heap.size, 0, none⟩) 1 1)) (w.alloc (.cells (cellsT m) 31))) : wpList Tryz.prog ops Q (o :: rest) a w :=
  wpList_plain hgd fun K hK => by
    unfold Oper.wp
    rw [ex_bs ho hx]
    exact hK _ _ h
theorem add_at (g o j : Nat) : (⟨g, o, none⟩ : Addr).add j = ⟨g, o + j, none⟩ := by
  unfold Addr.add
  split
  · rename_i h; rw [h]; rfl
  · rfl
/-- The cells of a list of TLVs. -/
def rowT (l : List T) : List Value := l.flatMap fun x => (cellsT x).toList
theorem rowT_snoc (l : List T) (m : T) : rowT (l ++ [m]) = rowT l ++ (cellsT m).toList := by simp [rowT]
theorem rowT_at : ∀ (l : List T) (i j : Nat) (h : i < l.length), j < 3 → (rowT l)[i * 3 + j]? = ((cellsT l[i]).toList)[j]?
  | [], i, j, h, _ => absurd h (by simp)
  | m :: l, 0, j, h, hj => by
    have : rowT (m :: l) = (cellsT m).toList ++ rowT l := by simp [rowT]
    rw [this, Nat.zero_mul, Nat.zero_add, List.getElem?_append_left (by show j < (cellsT m).toList.length; exact hj)]
    rfl
  | m :: l, i + 1, j, h, hj => by
    have e : rowT (m :: l) = (cellsT m).toList ++ rowT l := by simp [rowT]
    have hl : (cellsT m).toList.length = 3 := rfl
    rw [e, List.getElem?_append_right (by rw [hl]; omega), hl, show (i + 1) * 3 + j - 3 = i * 3 + j by omega, rowT_at l i j (by simpa using h) hj]
    rfl
theorem infoT : ∃ i, Tryz.prog.info? 31 = some i ∧ i.zero = some (.agg #[.int .i64 0, .int .i64 0, .string ByteArray.empty]) ∧ i.size = 3 ∧ i.bytes ≤ 4096 := by
  have h : (Tryz.prog.info? 31).map (fun i => (i.zero, i.size, decide (i.bytes ≤ 4096))) = some (some (.agg #[.int .i64 0, .int .i64 0, .string ByteArray.empty]), 3, true) := by kernel_rfl
  obtain ⟨i, hi, hz⟩ := Option.map_eq_some_iff.1 h
  simp only [Prod.mk.injEq, decide_eq_true_eq] at hz
  exact ⟨i, hi, hz⟩

/-- The call's own list of the TLVs l (what is new begins at block B). -/
def Lst (B : Nat) (w : World) (v : Value) (l : List T) : Prop := w.ownsRow B 31 3 v l.length (rowT l)
theorem Lst.nil (B : Nat) (w : World) : Lst B w (.slice none 0 0) [] := World.ownsRow_nil w B _ 3
theorem Lst.below {B : Nat} {w w' : World} {v : Value} {l : List T} (h : Lst B w v l) (hb : Below w.heap.size w w') : Lst B w' v l := by
  refine ⟨h.1, ?_⟩
  rcases h.2 with h | ⟨g, cap, cur, a, b, c, d⟩
  · exact .inl h
  · exact .inr ⟨g, cap, cur, a, b, (hb.block g (Array.getElem?_eq_some_iff.1 c).1).trans c, d⟩
theorem Lst.slice {B : Nat} {w : World} {v : Value} {l : List T} (h : Lst B w v l) : ∃ a c, v = .slice a l.length c := by
  rcases h.2 with ⟨hv, h0⟩ | ⟨g, cap, cur, hv, _⟩
  · exact ⟨none, 0, by rw [hv, h0]⟩
  · exact ⟨_, _, hv⟩
theorem Lst.row {B : Nat} {w : World} {a : Option Addr} {c : Nat} {l : List T} (h : Lst B w (.slice a l.length c) l) : TRow w a l := by
  intro i hi
  rcases h.2 with ⟨_, h0⟩ | ⟨g, cap, cur, hv, hb, hg, _⟩
  · omega
  · simp at hv
    obtain ⟨rfl, rfl⟩ := hv
    have hat : ∀ j v, j < 3 → ((cellsT l[i]).toList)[j]? = some v → w.cell? (((⟨g, 0, none⟩ : Addr).add (i * 3)).add j) = some v := fun j v hj hv => by
      have := World.ownsRow.cells h (g := g) rfl (i * 3 + j) v (by rw [rowT_at l i j hi hj]; exact hv)
      rw [add_at] at this
      rw [add_at, add_at, Nat.add_assoc]
      exact this
    exact ⟨⟨g, 0, none⟩, rfl, (Array.getElem?_eq_some_iff.1 hg).1, hat 0 _ (by decide) rfl, hat 1 _ (by decide) rfl, hat 2 _ (by decide) rfl⟩

theorem cells_new (m : T) (w : World) : ∀ j u, ((cellsT m).toList)[j]? = some u → (w.alloc (.cells (cellsT m) 31)).cell? ((⟨w.heap.size, 0, none⟩ : Addr).add j) = some u := by
  intro j u hu
  have := (Bk.Bk.new 31 w (cellsT m)).cell j u (by simpa using hu)
  rw [add_at, Nat.zero_add]
  exact this

theorem wp_app {o : Oper} {a : Act} {w : World} {Q : Exit → Act → World → Prop} {K : Act → World → Prop} (s x : Operand)
    (ho : o.op = .call { callee := .builtin .append, args := #[s, x], argTypes := #[29, 29] }) (B : Nat) (v : Value) (l : List T) (m : T) (g c : Nat)
    (hs : a.eval s = v) (hown : Lst B w v l) (hx : a.eval x = .slice (some ⟨g, 0, none⟩) 1 c) (hm : ∀ j u, ((cellsT m).toList)[j]? = some u → w.cell? ((⟨g, 0, none⟩ : Addr).add j) = some u)
    (hl : l.length ≤ 100000) (hB : B ≤ w.heap.size)
    (h : ∀ v' w', Lst B w' v' (l ++ [m]) → w.grownBy w' v.ownBlock → Below B w w' → K (a.put o.dst v') w') : Oper.wp Tryz.prog o a w K Q := by
  obtain ⟨i0, hi, hz, hsz, hby⟩ := infoT
  refine wp_append_own w s x 29 ho B 31 i0 (.agg #[.int .i64 0, .int .i64 0, .string ByteArray.empty]) 3 i0.bytes Tryz.underlying29 hi hz hsz rfl rfl (by decide) v l.length (rowT l) hs hown ⟨g, 0, none⟩ 1 c (cellsT m).toList hx rfl hm ?_ (by unfold maxLen; omega) ?_ hB ?_
  · intro u hu
    have := oneT m
    rw [Array.all_eq_true_iff_forall_mem] at this
    exact this u (by simpa using hu)
  · have : (l.length + 1) * i0.bytes ≤ 100001 * 4096 := Nat.mul_le_mul (by omega) hby
    omega
  · intro v' w' h2 h3 _
    refine h v' w' ?_ h3 ((Below.refl B w).grown h3 hB (fun k hk => (World.ownsRow.lt hown k hk).1))
    unfold Lst
    rw [rowT_snoc, List.length_append]
    exact h2
theorem ob_ne {w : World} {B : Nat} {e T : TypeId} {size : Nat} {v : Value} {n : Nat} {xs : List Value} {b : Nat} {cs : Array Value} (hown : w.ownsRow B e size v n xs) (hb : Bk T w b cs) (hTe : T ≠ e) : v.ownBlock ≠ some b := by
  rcases hown.2 with ⟨rfl, _⟩ | ⟨g, cap, cur, rfl, _, hg, _⟩
  · simp [Value.ownBlock]
  · intro h
    simp only [Value.ownBlock, Option.some.injEq] at h
    subst h
    have := hb.symm.trans hg
    simp only [Option.some.injEq, Obj.cells.injEq] at this
    exact hTe this.2.1
/-- What is no TLV stands behind an append. -/
theorem Lst.keeps {B : Nat} {w w' : World} {v : Value} {l : List T} {t : TypeId} {b : Nat} {cs : Array Value} (hl : Lst B w v l) (hg : w.grownBy w' v.ownBlock) (hb : Bk t w b cs) (ht : t ≠ 31) : Bk t w' b cs :=
  (hg.block _ hb.lt (fun e => ob_ne hl hb ht e.symm)).trans hb
/-- A list stands when a block that holds no TLV is laid anew. -/
theorem Lst.off_row {B : Nat} {w : World} {v : Value} {l : List T} {t : TypeId} {b : Nat} {cs : Array Value} (hl : Lst B w v l) (hb : Bk t w b cs) (ht : t ≠ 31) (cs' : Array Value) : Lst B (w.setRow b cs') v l :=
  World.ownsRow.kept (row := some b) hl ⟨rfl, rfl, rfl, by simp, fun k _ hk => setRow_other w b k cs' (fun e => hk (by simp [e]))⟩ (Or.inr (ob_ne hl hb ht))
/-- append(v, m), behind the making of the list of m alone. -/
theorem app_one {ops : Array Oper} {rest : List Oper} {o : Oper} {a : Act} {w : World} {Q : Exit → Act → World → Prop} (hgd : o.guard = none) (s x : Operand)
    (ho : o.op = .call { callee := .builtin .append, args := #[s, x], argTypes := #[29, 29] }) (B : Nat) (v : Value) (l : List T) (m : T) (g c : Nat)
    (hs : a.eval s = v) (hown : Lst B w v l) (hx : a.eval x = .slice (some ⟨g, 0, none⟩) 1 c) (hm : ∀ j u, ((cellsT m).toList)[j]? = some u → w.cell? ((⟨g, 0, none⟩ : Addr).add j) = some u)
    (hl : l.length ≤ 100000) (hB : B ≤ w.heap.size)
    (h : ∀ v' w', Lst B w' v' (l ++ [m]) → w.grownBy w' v.ownBlock → Below B w w' → wpList Tryz.prog ops Q rest (a.put o.dst v') w') : wpList Tryz.prog ops Q (o :: rest) a w :=
  wpList_plain hgd fun K hK => wp_app s x ho B v l m g c hs hown hx hm hl hB fun v' w' h1 h2 h3 => hK _ _ (h v' w' h1 h2 h3)

section
variable {ops : Array Oper} {Q : Exit → Act → World → Prop} {md : Region.Mode} {S : World → Prop}
/-- []api.Tlv{m} -/
theorem H.bsT {i d : Nat} {o : Oper} {fuel : Nat} {listed : Array Bool} {a : Act} {w : World}
    (ho : ops[i]? = some o) (hw : Region.wanted o (yielded ops a.tmps) = true) (hr : Region.ready md ops listed = [i]) (hd : o.dst = some d)
    (x : Operand) (hop : o.op = .buildSlice 29 1 #[(0, x)]) {m : T} (hx : a.eval x = .agg (cellsT m)) (hS : S (w.alloc (.cells (cellsT m) 31)))
    (h : wpAnyH Tryz.prog md ops Q S fuel (listed.setIfInBounds i true) (a.put (some d) (.slice (some ⟨w.heap.size, 0, none⟩) 1 1)) (w.alloc (.cells (cellsT m) 31))) : wpAnyH Tryz.prog md ops Q S (fuel + 1) listed a w := by
  refine H.one ho hw hr (fun K hK => ?_)
  unfold Oper.wp
  rw [ex_bs hop hx]
  simp only [Oper.upon, hd]
  exact hK.out _ _ hS h
/-- append(v, m), behind the making of the list of m alone. -/
theorem H.appT {i d : Nat} {o : Oper} {fuel : Nat} {listed : Array Bool} {a : Act} {w : World}
    (ho : ops[i]? = some o) (hw : Region.wanted o (yielded ops a.tmps) = true) (hr : Region.ready md ops listed = [i]) (hd : o.dst = some d)
    (s x : Operand) (hop : o.op = .call { callee := .builtin .append, args := #[s, x], argTypes := #[29, 29] }) (B : Nat) (v : Value) (l : List T) (m : T) (g c : Nat)
    (hs : a.eval s = v) (hown : Lst B w v l) (hx : a.eval x = .slice (some ⟨g, 0, none⟩) 1 c) (hm : ∀ j u, ((cellsT m).toList)[j]? = some u → w.cell? ((⟨g, 0, none⟩ : Addr).add j) = some u)
    (hl : l.length ≤ 100000) (hB : B ≤ w.heap.size) (hS : ∀ w', w.grownBy w' v.ownBlock → S w')
    (h : ∀ v' w', Lst B w' v' (l ++ [m]) → w.grownBy w' v.ownBlock → Below B w w' → wpAnyH Tryz.prog md ops Q S fuel (listed.setIfInBounds i true) (a.put (some d) v') w') : wpAnyH Tryz.prog md ops Q S (fuel + 1) listed a w := by
  refine H.one ho hw hr (fun K hK => ?_)
  refine wp_app s x hop B v l m g c hs hown hx hm hl hB fun v' w' h1 h2 h3 => ?_
  rw [hd]
  exact hK.out _ _ (hS w' h2) (h v' w' h1 h2 h3)
end
theorem add_one (p : Addr) : p.add 1 = ⟨p.block, p.off + 1, none⟩ := rfl
theorem add_two (p : Addr) : p.add 2 = ⟨p.block, p.off + 2, none⟩ := rfl
theorem below_drewN {w W : World} (h : Below w.heap.size w W) : ∀ n, Below w.heap.size w (W.drewN n)
  | 0 => h
  | n + 1 => (below_drewN h n).drew
theorem indexT (p : Addr) (n c i : Nat) (h : i < n) (W : World) : (Instr.indexAt 29 (.slice (some p) n c) (.int .i64 (i : Int))).run Tryz.prog W = .ok (.pointer (some (p.add (i * 3)))) W := by
  have he : Tryz.prog.elem 29 = 31 := by simp [Program.elem, Tryz.underlying29]
  have hz : (sizeOf 31).run Tryz.prog W = .ok 3 W := by go_simp
  rw [run_indexAt_slice W 29 p n c .i64 (i : Int) (by rw [he]; exact Tryz.underlying29), if_pos (by omega), he, hz]
  rfl
end Go.Proofs.YtpkmpinbpfblfaaGreatDoor.Tl
namespace Go.Proofs.YtpkmpinbpfblfaaGreatDoor.Open
open Go.ChangeShapes Go.WideShapes Go.ChangeAt Go.RowKit Go.Deep
open Go.Proofs.YtpkmpinbpfblfaaGreatDoor.Ms
open Go.Proofs.YtpkmpinbpfblfaaGreatDoor.Box
open Go.Proofs.YtpkmpinbpfblfaaGreatDoor.All
set_option linter.unusedVariables false
set_option maxRecDepth 100000

section
variable {H : Type} {enc : TypeId × Value → H} {W : World}

/-- A struct whose fields take one cell each reads field by field: field j's reading is that of cell j. -/
theorem each_field {t : TypeId} {fds : Array Field} (ht : Tryz.prog.underlying t = some (.struct fds)) (hone : oneCellFields Tryz.prog fds = true) {fuel : Nat} {cs : List Value} {x : DataW H × List MemPlace}
    (h : DataW.trod enc Tryz.prog W 0 (fun _ => true) true fuel t cs = some x) :
    cs.length = Tryz.prog.cellsOf t ∧ ∃ n, ∀ (j : Nat) (f : Field), fds[j]? = some f → ∃ y, DataW.trod enc Tryz.prog W 0 (fun _ => true) true n f.type ((cs.drop j).take 1) = some y := by
  obtain ⟨xs, n, _, _, hlen, hxl, hf⟩ := DataW.trod_struct ht h
  refine ⟨hlen, n, fun j f hj => ?_⟩
  have h1 := hf j f hj
  rw [(hone_of hone j f hj).1, (hone_of hone j f hj).2] at h1
  have hjl : j < xs.length := by rw [hxl]; exact (Array.getElem?_eq_some_iff.1 hj).1
  exact ⟨xs[j], h1.trans (List.getElem?_eq_getElem hjl)⟩

theorem els {α : Type} {n : Nat} {R : Nat → α → Prop} (h : ∀ i, i < n → ∃ x, R i x) : ∃ l : List α, l.length = n ∧ ∀ i (hi : i < l.length), R i l[i] := by
  induction n with
  | zero => exact ⟨[], rfl, fun i hi => absurd hi (by simp)⟩
  | succ n ih =>
    obtain ⟨l, hl, hr⟩ := ih fun i hi => h i (by omega)
    obtain ⟨x, hx⟩ := h n (by omega)
    refine ⟨l ++ [x], by simp [hl], fun i hi => ?_⟩
    by_cases hin : i < l.length
    · rw [List.getElem_append_left hin]; exact hr i hin
    · obtain rfl : i = l.length := by simp at hi; omega
      rw [List.getElem_append_right (Nat.le_refl _)]
      simp only [Nat.sub_self, List.getElem_cons_zero]
      rw [hl]; exact hx

theorem laidOut : laidOutB Tryz.prog = true := by kernel_rfl
theorem again {t : TypeId} (hr : Tryz.prog.readableRec t = true) (hrow : t < Tryz.prog.types.size) {W' : World} {v : Value} {d : DataW H} {ps : List MemPlace}
    (h : DataW.Trod enc Tryz.prog W 0 (fun _ => true) true t v d ps) (hb : Below W.heap.size W W') (hlt : ∀ x ∈ ps, x.block < W.heap.size) :
    DataW.Trod enc Tryz.prog W' 0 (fun b => decide (b < W.heap.size)) true t v d ps := Below.trod laidOut hr hrow h hb hlt
end
end Go.Proofs.YtpkmpinbpfblfaaGreatDoor.Open
namespace Go.Proofs.YtpkmpinbpfblfaaGreatDoor.Open
open Go.ChangeShapes Go.WideShapes Go.ChangeAt Go.RowKit
open Go.Proofs.YtpkmpinbpfblfaaGreatDoor.Tl (cellsT)
set_option linter.unusedVariables false
set_option maxRecDepth 100000
set_option maxRecDepth 100000
section
variable {H : Type} {enc : TypeId × Value → H} {W : World}
theorem cellsTl : Tryz.prog.cellsOf 31 = 3 := by kernel_rfl
theorem open_tlv {fuel : Nat} {cs : List Value} {x : DataW H × List MemPlace} (h : DataW.trod enc Tryz.prog W 0 (fun _ => true) true fuel 31 cs = some x) :
    ∃ a d t, cs = (cellsT (a, (d, t))).toList ∧ d.size ≤ maxLen := by
  obtain ⟨hlen, n, go⟩ := each_field Tryz.underlying31 (by kernel_rfl) h
  rw [cellsTl] at hlen
  clear h
  match cs, hlen with
  | [c0, c1, c2], _ =>
    obtain ⟨y0, h0⟩ := go 0 _ rfl
    obtain ⟨k0, e0, _, _⟩ := DataW.trod_int Tryz.underlying3 (show DataW.trod enc Tryz.prog W 0 (fun _ => true) true n 3 [c0] = some y0 from h0)
    obtain rfl := (List.cons.inj e0).1
    obtain ⟨y1, h1⟩ := go 1 _ rfl
    obtain ⟨k1, e1, _, _⟩ := DataW.trod_int Tryz.underlying3 (show DataW.trod enc Tryz.prog W 0 (fun _ => true) true n 3 [c1] = some y1 from h1)
    obtain rfl := (List.cons.inj e1).1
    obtain ⟨y2, h2⟩ := go 2 _ rfl
    obtain ⟨k2, e2, _, z2⟩ := DataW.trod_string Tryz.underlying9 (show DataW.trod enc Tryz.prog W 0 (fun _ => true) true n 9 [c2] = some y2 from h2)
    obtain rfl := (List.cons.inj e2).1
    exact ⟨k1, k2, k0, rfl, z2⟩
end
end Go.Proofs.YtpkmpinbpfblfaaGreatDoor.Open
namespace Go.Proofs.YtpkmpinbpfblfaaGreatDoor.Kb
open Go.ChangeShapes Go.WideShapes Go.ChangeAt Go.RowKit Go.Joins
open Go.Proofs.YtpkmpinbpfblfaaGreatDoor.Ms
open Go.Proofs.YtpkmpinbpfblfaaGreatDoor.Box
open Go.Proofs.YtpkmpinbpfblfaaGreatDoor.All
open Go.Proofs.YtpkmpinbpfblfaaGreatDoor.An
open Go.Proofs.YtpkmpinbpfblfaaGreatDoor.K1
open Go.Proofs.YtpkmpinbpfblfaaGreatDoor.F1 (T)
open Go.Proofs.YtpkmpinbpfblfaaGreatDoor.Ap (add_at cells_new)
open Go.Proofs.YtpkmpinbpfblfaaGreatDoor.Tl (cellsT TRow)
open Go.Proofs.YtpkmpinbpfblfaaGreatDoor.Open (each_field els)
open Go.Proofs.YtpkmpinbpfblfaaGreatDoor.Bk (Bk Sh alloc_size wpList_loadK wpList_storeK run_loadK)
open Go.Deep
set_option linter.unusedVariables false
set_option maxRecDepth 100000
set_option maxRecDepth 100000
theorem shX : Sh Tryz.prog 35 7 := ⟨_, Tryz.underlying35, by kernel_rfl⟩
theorem oneX (x : Kx) : (x.cells.all fun x => x.oneCell') = true := by simp [Kx.cells, Value.oneCell']
theorem wpList_loadX {ops : Array Oper} {rest : List Oper} {o : Oper} {a : Act} {w : World} {Q : Exit → Act → World → Prop} (hgd : o.guard = none) (x : Operand) (ho : o.op = .load 35 x) {b : Nat} (hx : a.eval x = .pointer (some ⟨b, 0, none⟩)) {m : Kx} (hb : Bk 35 w b m.cells)
    (h : wpList Tryz.prog ops Q rest (a.put o.dst (.agg m.cells)) w) : wpList Tryz.prog ops Q (o :: rest) a w := wpList_loadK shX hgd x ho hx hb rfl h
theorem wpList_storeX {ops : Array Oper} {rest : List Oper} {o : Oper} {a : Act} {w : World} {Q : Exit → Act → World → Prop} (hgd : o.guard = none) (x y : Operand) (ho : o.op = .store 35 x y) {b : Nat} (hx : a.eval x = .pointer (some ⟨b, 0, none⟩)) {m m' : Kx} (hy : a.eval y = .agg m'.cells) (hb : Bk 35 w b m.cells)
    (h : wpList Tryz.prog ops Q rest (a.put o.dst undef) (w.setRow b m'.cells)) : wpList Tryz.prog ops Q (o :: rest) a w := wpList_storeK shX hgd x y ho hx hy hb rfl rfl (oneX m') h

/-- What is the same as itself. -/
theorem eq_arr {P : Program} {W : World} (d : Nat) (t e : TypeId) (n : Nat) (xs : Array Value) (ht : P.underlying t = some (.array n e))
    (hz : (sizeOf e).run P W = .ok 1 W) (hx : ∀ i, i < n → ∃ a, (part e xs i).run P W = .ok a W ∧ (Op.equalIn d e a a).run P W = .ok true W) : (Op.equalIn (d + 1) t (.agg xs) (.agg xs)).run P W = .ok true W := by
  simp only [Op.equalIn, Sem.run_bind, run_underlying ht, Result.andThen_ok, hz]
  rw [Std.Legacy.Range.forIn_eq_forIn_range']
  simp only [Std.Legacy.Range.size, Nat.sub_zero, Nat.add_one_sub_one, Nat.div_one]
  have hl : ∀ i ∈ List.range' 0 n 1, i < n := fun i hi => by simp at hi; exact hi
  generalize List.range' 0 n 1 = l at *
  induction l with
  | nil => simp
  | cons i l ih =>
    obtain ⟨a, ha, hq⟩ := hx i (hl i (by simp))
    simp only [List.forIn_cons, Sem.run_bind, Nat.mul_one, ha, Result.andThen_ok, hq, Bool.not_true, Bool.false_eq_true, if_false, Sem.run_pure]
    have := ih (fun j hj => hl j (by simp [hj]))
    simp only [Nat.mul_one] at this
    exact this
theorem eqF_same {P : Program} {W : World} {d : Nat} {f : Field} {fs : List Field} {xs : Array Value} {a : Value} {r : Bool} (hn : f.name ≠ "_")
    (hx : (part f.type xs f.offset).run P W = .ok a W) (hq : (Op.equalIn d f.type a a).run P W = .ok true W) (h : (Op.eqFields d xs xs fs).run P W = .ok r W) :
    (Op.eqFields d xs xs (f :: fs)).run P W = .ok r W := by
  simp only [Op.eqFields, ne_eq, hn, not_false_eq_true, if_true, Sem.run_bind, hx, Result.andThen_ok, hq, Bool.not_true, Bool.false_eq_true, if_false, h]
theorem size_str (W : World) : (sizeOf 9).run Tryz.prog W = .ok 1 W := by go_simp
theorem eq_four (d : Nat) (a b c e : ByteArray) (W : World) : (Op.equalIn (d + 2) 32 (.agg #[.string a, .string b, .string c, .string e]) (.agg #[.string a, .string b, .string c, .string e])).run Tryz.prog W = .ok true W := by
  refine eq_arr (d + 1) 32 9 4 _ Tryz.underlying32 (size_str W) fun i hi => ?_
  have hs : ∀ x, (Op.equalIn (d + 1) 9 (.string x) (.string x)).run Tryz.prog W = .ok true W := fun x => by rw [run_equalIn_string W d 9 x x Tryz.underlying9]; simp
  rcases (show i = 0 ∨ i = 1 ∨ i = 2 ∨ i = 3 by omega) with rfl | rfl | rfl | rfl
  · exact ⟨_, rfl, hs a⟩
  · exact ⟨_, rfl, hs b⟩
  · exact ⟨_, rfl, hs c⟩
  · exact ⟨_, rfl, hs e⟩
theorem eq_two (d : Nat) (a b : ByteArray) (W : World) : (Op.equalIn (d + 2) 33 (.agg #[.string a, .string b]) (.agg #[.string a, .string b])).run Tryz.prog W = .ok true W := by
  refine eq_arr (d + 1) 33 9 2 _ Tryz.underlying33 (size_str W) fun i hi => ?_
  have hs : ∀ x, (Op.equalIn (d + 1) 9 (.string x) (.string x)).run Tryz.prog W = .ok true W := fun x => by rw [run_equalIn_string W d 9 x x Tryz.underlying9]; simp
  rcases (show i = 0 ∨ i = 1 by omega) with rfl | rfl
  · exact ⟨_, rfl, hs a⟩
  · exact ⟨_, rfl, hs b⟩
theorem eqX (c : Kx) (W : World) : (Op.equalIn 10000 35 (.agg c.cells) (.agg c.cells)).run Tryz.prog W = .ok true W := by
  have hf : Tryz.prog.underlying 35 = some (.struct (Tryz.prog.fieldsOf 35)) := by kernel_rfl
  have hp : Tryz.prog.stoodInHeld 35 = false := by kernel_rfl
  rw [run_equalIn_struct W 9999 35 _ _ hf hp]
  simp only [Program.fieldsOf, Tryz.underlying35]
  refine eqF_same (a := .agg #[.string c.p0, .string c.p1, .string c.p2, .string c.p3]) (by decide) rfl (eq_four 9997 _ _ _ _ W) ?_
  refine eqF_same (a := .agg #[.string c.n0, .string c.n1]) (by decide) rfl (eq_two 9997 _ _ W) ?_
  refine eqF_same (a := .string c.id) (by decide) rfl (by rw [run_equalIn_string W 9998 9 _ _ Tryz.underlying9]; simp) ?_
  rfl
theorem eql_X (c : Kx) (W : World) : (binOp .eql 35 (.agg c.cells) (.agg c.cells)).run Tryz.prog W = .ok (.bool true) W := by rw [run_eql_struct, eqX]; rfl
theorem guard_X (op : BinOp) (x y : Operand) (a b : Array Value) (W : World) : (eqGuard op 35 x y (.agg a) (.agg b)).run Tryz.prog W = .ok () W := run_eqGuard_agg W op _ x y _ _ (by kernel_rfl)
theorem ex_eqX {o : Oper} {ρ : Operand → Value} {x y : Operand} {c : Kx} {w : World} (ho : o.op = .binOp .eql 35 x y 35) (hx : ρ x = .agg c.cells) (hy : ρ y = .agg c.cells) : (execOp ρ o).run Tryz.prog w = .ok (.value (.bool true)) w := by
  unfold execOp
  simp only [ho, hx, hy, Sem.run_bind, guard_X, Result.andThen_ok, eql_X, Sem.run_pure]
/-- l is l', but for where the messages' Subs stand. -/
def PlL (l l' : List M) : Prop := l.length = l'.length ∧ ∀ i (h : i < l.length) (h' : i < l'.length), Pl l[i] l'[i]
theorem PlL.nil : PlL [] [] := ⟨rfl, fun i h => absurd h (by simp)⟩
theorem PlL.one {n m : M} (h : Pl n m) : PlL [n] [m] := ⟨rfl, fun i h1 h2 => by
  obtain rfl : i = 0 := by (simp at h1; exact h1)
  exact h⟩
theorem PlL.at_nil {l : List M} (h : PlL l []) : l = [] := List.length_eq_zero_iff.1 h.1
theorem PlL.at_one {l : List M} {m : M} (h : PlL l [m]) : ∃ n, l = [n] ∧ Pl n m := by
  obtain ⟨n, rfl⟩ := List.length_eq_one_iff.1 h.1
  exact ⟨n, rfl, h.2 0 (by simp) (by simp)⟩
theorem PlL.same {x x' y y' : List M} (h : PlL x y) (h' : PlL x' y') : sameL x x' = sameL y y' := by
  unfold sameL
  rw [decide_eq_decide]
  constructor
  · rintro ⟨h1, h2⟩
    refine ⟨by rw [← h.1, ← h'.1]; exact h1, fun i k1 k2 => ?_⟩
    rw [← (h.2 i (by rw [h.1]; exact k1) k1).same (h'.2 i (by rw [h'.1]; exact k2) k2)]
    exact h2 i _ _
  · rintro ⟨h1, h2⟩
    refine ⟨by rw [h.1, h'.1]; exact h1, fun i k1 k2 => ?_⟩
    rw [(h.2 i k1 (by rw [← h.1]; exact k1)).same (h'.2 i k2 (by rw [← h'.1]; exact k2))]
    exact h2 i _ _
theorem sameL_refl (l : List M) : sameL l l = true := sameL_yes rfl fun i h1 h2 => same_refl _
theorem PlL.short {x y : List M} (h : PlL x y) (hs : ∀ m ∈ y, m.la = none ∧ m.ll = [] ∧ m.lc = 0 ∧ m.sl.length ≤ 100 ∧ ∀ x ∈ m.sl, x.1.size ≤ 1099511627776) : ∀ m ∈ x, Short m := by
  intro m hm
  obtain ⟨i, hi, rfl⟩ := List.getElem_of_mem hm
  have hy : i < y.length := by rw [← h.1]; exact hi
  have hp := h.2 i hi hy
  obtain ⟨_, h1, _, h2, _⟩ := hs _ (List.getElem_mem hy)
  have e : x[i].ll = y[i].ll := by rw [show x[i] = _ from hp]
  exact ⟨by rw [e, h1]; exact Nat.zero_le _, by rw [hp.sl]; omega⟩
/-- A list of messages of a call's own (what is new begins at block B): each has Subs alone, which are the call's own. -/
def MOwn (B : Nat) (w : World) (a : Option Addr) (l : List M) : Prop :=
  ∀ i (h : i < l.length), ∃ p, a = some p ∧ B ≤ p.block ∧ p.block < w.heap.size ∧ (∀ j v, (l[i].cells.toList)[j]? = some v → w.cell? ((p.add (i * 25)).add j) = some v) ∧ l[i].ll = [] ∧ Sx.Lst B w (.slice l[i].sa l[i].sl.length l[i].sc) l[i].sl
theorem MOwn.nil (B : Nat) (w : World) (a : Option Addr) : MOwn B w a [] := fun i hi => absurd hi (by simp)
theorem MOwn.row {B : Nat} {w : World} {a : Option Addr} {l : List M} (h : MOwn B w a l) : MRow w a l := fun i hi => by
  obtain ⟨p, h1, _, h3, h4, h5, h6⟩ := h i hi
  exact ⟨p, h1, h3, h4, by rw [h5]; exact DRow.nil _ _, h6.row⟩
theorem MOwn.below {B : Nat} {w w' : World} {a : Option Addr} {l : List M} (h : MOwn B w a l) (hb : Below w.heap.size w w') : MOwn B w' a l := fun i hi => by
  obtain ⟨p, h1, h2, h3, h4, h5, h6⟩ := h i hi
  exact ⟨p, h1, h2, Nat.lt_of_lt_of_le h3 hb.size, fun j v hv => (hb.cell (by rw [add_block, add_block]; exact h3)).trans (h4 j v hv), h5, h6.below hb⟩
theorem MOwn.mono {B B' : Nat} {w : World} {a : Option Addr} {l : List M} (h : MOwn B w a l) (hB : B' ≤ B) : MOwn B' w a l := fun i hi => by
  obtain ⟨p, h1, h2, h3, h4, h5, h6⟩ := h i hi
  exact ⟨p, h1, Nat.le_trans hB h2, h3, h4, h5, lst_mono h6 hB⟩
theorem MOwn.under {B g : Nat} {w : World} {a : Option Addr} {l : List M} (h : MOwn B w a l) (hg : g < B) (cs : Array Value) : MOwn B (w.setRow g cs) a l := fun i hi => by
  obtain ⟨p, h1, h2, h3, h4, h5, h6⟩ := h i hi
  refine ⟨p, h1, h2, by simpa using h3, fun j v hv => ?_, h5, lst_under h6 hg cs⟩
  have hne : ((p.add (i * 25)).add j).block ≠ g := by rw [add_block, add_block]; omega
  have hb : Below (g + 1) (w.setRow g cs) (w.setRow g cs) := Below.refl _ _
  have := h4 j v hv
  unfold World.cell? at this ⊢
  rw [setRow_other w g _ cs hne]
  exact this
/-- What a step answers: what is known, messages (the list and their Subs are the call's own), an error. -/
def AnsC (p : Kx × List M × Int) (w : World) (e : Ending) (w' : World) : Prop :=
  ∃ a c l, e = .returned (.tuple #[.agg p.1.cells, .slice a l.length c, .int .i64 p.2.2]) ∧ PlL l p.2.1 ∧ MOwn w.heap.size w' a l ∧ Below w.heap.size w w'
theorem AnsC.no {p : Kx × List M × Int} {w w' : World} {c : Kx} {d : Int} (h : p = (c, [], d)) (hb : Below w.heap.size w w') : AnsC p w (.returned (.tuple #[.agg c.cells, .slice none 0 0, .int .i64 d])) w' := by
  subst h
  exact ⟨none, 0, [], rfl, PlL.nil, MOwn.nil _ _ _, hb⟩
theorem one_new {B : Nat} {w : World} {n : M} (h : n.ll = []) (hl : Sx.Lst B w (.slice n.sa n.sl.length n.sc) n.sl) (hB : B ≤ w.heap.size) : MOwn B (w.alloc (.cells n.cells 43)) (some ⟨w.heap.size, 0, none⟩) [n] := by
  intro i hi
  obtain rfl : i = 0 := by (simp at hi; exact hi)
  refine ⟨_, rfl, hB, by rw [alloc_size]; exact Nat.lt_succ_self _, fun j v hv => ?_, h, hl.below (balloc (Below.refl _ w) _)⟩
  have := cells_new n w j v hv
  rw [add_at] at this
  rw [add_at, add_at, Nat.zero_mul, Nat.add_zero]
  exact this
theorem AnsC.one {p : Kx × List M × Int} {w w' : World} {a : Option Addr} {c : Kx} {m n : M} {k : Nat} (h : p = (c, [m], 0)) (hp : Pl n m) (hn : MOwn w.heap.size w' a [n]) (hb : Below w.heap.size w w') : AnsC p w (.returned (.tuple #[.agg c.cells, .slice a 1 k, .int .i64 0])) w' := by
  subst h
  exact ⟨a, k, [n], rfl, PlL.one hp, hn, hb⟩

section
variable {H : Type} {enc : TypeId × Value → H} {W : World}
theorem by_tlvs {base : Nat} {v : Value} {d : DataW H} {p : List MemPlace} (hv : Value.okWide Tryz.prog W .any base 29 v) (h : DataW.Trod enc Tryz.prog W 0 (fun _ => true) true 29 v d p) :
    ∃ (a : Option Addr) (l : List T) (c : Nat), v = .slice a l.length c ∧ TRow W a l ∧ l.length ≤ 9223372036854775807 ∧ ∀ x ∈ l, x.2.1.size ≤ maxLen := by
  obtain ⟨fuel, hf⟩ := h
  have hvc := okWide_slice Tryz.underlying29 hv
  obtain ⟨va, vn, vc, rfl⟩ := hvc
  have hz : Tryz.prog.cellsOf 31 = 3 := Open.cellsTl
  rcases open_slice Tryz.underlying29 hf with h0 | ⟨a, len, cap, m, n, D, Pl, hcs, hb, hl, hm, hmm, hx, hi⟩
  · have e := h0.1
    simp [Value.cells] at e
    obtain ⟨rfl, rfl, rfl⟩ := e
    exact ⟨none, [], 0, rfl, TRow.nil _ _, by simp, fun x hx => absurd hx (by simp)⟩
  · simp [Value.cells] at hcs
    obtain ⟨rfl, rfl, rfl⟩ := hcs
    obtain ⟨l, hll, hr⟩ := els (n := vn) (R := fun i (x : T) => W.cell? (a.add (i * 3)) = some (.int .i64 x.2.2) ∧ W.cell? ((a.add (i * 3)).add 1) = some (.int .i64 x.1) ∧ W.cell? ((a.add (i * 3)).add 2) = some (.string x.2.1) ∧ x.2.1.size ≤ maxLen) (fun i hin => by
      obtain ⟨ds, hc, ht⟩ := hi i (by rw [hmm]; split <;> omega)
      rw [hz] at hc
      obtain ⟨b, s, t, hd, hs⟩ := Open.open_tlv ht
      subst hd
      obtain ⟨_, _, hat⟩ := World.cells?_some hc
      exact ⟨(b, (s, t)), hat 0 (by decide), hat 1 (by decide), hat 2 (by decide), hs⟩)
    refine ⟨some a, l, vc, by rw [hll], fun i hin => ⟨a, rfl, ?_, (hr i hin).1, (hr i hin).2.1, (hr i hin).2.2.1⟩, by unfold maxLen at hm; omega, fun x hx => ?_⟩
    · have := block_lt_of_cell (hr i hin).1
      rwa [add_block] at this
    · obtain ⟨i, hi, rfl⟩ := List.getElem_of_mem hx
      exact (hr i hi).2.2.2
end
end Go.Proofs.YtpkmpinbpfblfaaGreatDoor.Kb
namespace Go.Proofs.YtpkmpinbpfblfaaGreatDoor.Lm
open Go.ChangeShapes Go.WideShapes Go.ChangeAt Go.RowKit
open Go.Proofs.YtpkmpinbpfblfaaGreatDoor.Ms
open Go.Proofs.YtpkmpinbpfblfaaGreatDoor.Box
open Go.Proofs.YtpkmpinbpfblfaaGreatDoor.All
open Go.Proofs.YtpkmpinbpfblfaaGreatDoor.An
open Go.Proofs.YtpkmpinbpfblfaaGreatDoor.Ap
open Go.Proofs.YtpkmpinbpfblfaaGreatDoor.Kb
set_option linter.unusedVariables false
set_option maxRecDepth 100000
set_option maxRecDepth 100000

theorem own_ne {w : World} {B1 B2 : Nat} {e1 e2 : TypeId} {s1 s2 : Nat} {v1 v2 : Value} {n1 n2 : Nat} {x1 x2 : List Value} (h1 : w.ownsRow B1 e1 s1 v1 n1 x1) (h2 : w.ownsRow B2 e2 s2 v2 n2 x2) (hn : e1 ≠ e2) : v1.ownBlock = none ∨ v1.ownBlock ≠ v2.ownBlock := by
  rcases h1.2 with ⟨rfl, _⟩ | ⟨g, cap, cur, rfl, _, c, _⟩
  · exact .inl rfl
  · refine .inr fun he => ?_
    rcases h2.2 with ⟨rfl, _⟩ | ⟨g2, cap2, cur2, rfl, _, c2, _⟩
    · cases he
    · obtain rfl : g = g2 := Option.some.inj he
      rw [c] at c2
      injection c2 with c2
      injection c2 with _ c2
      exact hn c2
/-- The call's own list of the messages l, and their Subs (the list begins at block B, the Subs at block S). -/
def LM (B S : Nat) (w : World) (v : Value) (l : List M) : Prop := Ap.Lst B w v l ∧ ∀ m ∈ l, m.ll = [] ∧ Sx.Lst S w (.slice m.sa m.sl.length m.sc) m.sl
theorem LM.nil (B S : Nat) (w : World) : LM B S w (.slice none 0 0) [] := ⟨Ap.Lst.nil B w, fun m hm => absurd hm (by simp)⟩
theorem LM.below {B S : Nat} {w w' : World} {v : Value} {l : List M} (h : LM B S w v l) (hb : Below w.heap.size w w') : LM B S w' v l := ⟨h.1.below hb, fun m hm => ⟨(h.2 m hm).1, (h.2 m hm).2.below hb⟩⟩
theorem LM.slice {B S : Nat} {w : World} {v : Value} {l : List M} (h : LM B S w v l) : ∃ a c, v = .slice a l.length c := h.1.slice
theorem ap_under {B g : Nat} {w : World} {v : Value} {l : List M} (h : Ap.Lst B w v l) (hg : g < B) (cs : Array Value) : Ap.Lst B (w.setRow g cs) v l := by
  refine ⟨h.1, ?_⟩
  rcases h.2 with h | ⟨k, cap, cur, a, b, c, d⟩
  · exact .inl h
  · exact .inr ⟨k, cap, cur, a, b, (setRow_other w g k cs (by omega)).trans c, d⟩
theorem LM.under {B S g : Nat} {w : World} {v : Value} {l : List M} (h : LM B S w v l) (hg : g < B) (hs : g < S) (cs : Array Value) : LM B S (w.setRow g cs) v l := ⟨ap_under h.1 hg cs, fun m hm => ⟨(h.2 m hm).1, lst_under (h.2 m hm).2 hs cs⟩⟩
/-- As a list that is handed back. -/
theorem LM.own {B S : Nat} {w : World} {a : Option Addr} {c : Nat} {l : List M} (h : LM B S w (.slice a l.length c) l) (hS : S ≤ B) : MOwn S w a l := by
  intro i hi
  rcases h.1.2 with ⟨hv, h0⟩ | ⟨g, cap, cur, hv, hB, hg, hcap, _, hsz, ht⟩
  · omega
  · have ha : a = some ⟨g, 0, none⟩ := by injection hv
    refine ⟨_, ha, Nat.le_trans hS hB, (Array.getElem?_eq_some_iff.1 hg).1, fun j v hj => ?_, (h.2 _ (List.getElem_mem hi)).1, (h.2 _ (List.getElem_mem hi)).2⟩
    have hj25 : j < 25 := by
      have := (List.getElem?_eq_some_iff.1 hj).1
      simpa [M.cells] using this
    have hr : (rowC l)[i * 25 + j]? = some v := by rw [rowC_at l i j hi hj25]; exact hj
    have := World.ownsRow.cells h.1 (g := g) (by rw [ha]; rfl) _ _ hr
    rw [add_at, Nat.zero_add] at this
    rw [add_at, add_at, Nat.zero_add]
    exact this
theorem rowC_app (a b : List M) : rowC (a ++ b) = rowC a ++ rowC b := by simp [rowC]
theorem rowC_one {l : List M} : ∀ u ∈ rowC l, u.oneCell' = true := by
  intro u hu
  obtain ⟨m, _, h⟩ := List.mem_flatMap.1 hu
  have := oneM m
  rw [Array.all_eq_true_iff_forall_mem] at this
  exact this u (by simpa using h)
theorem add_add (p : Addr) (x y : Nat) : (p.add x).add y = p.add (x + y) := by
  by_cases h1 : x = 0
  · subst h1; rw [Nat.zero_add]; rfl
  by_cases h2 : y = 0
  · subst h2; rfl
  unfold Addr.add
  rw [if_neg h2, if_neg h1, if_neg (by omega)]
  simp [Nat.add_assoc]
theorem own_cells {B : Nat} {w : World} {p : Addr} {r : List M} (h : MOwn B w (some p) r) : ∀ j u, (rowC r)[j]? = some u → w.cell? (p.add j) = some u := by
  intro j u hj
  have hlt : j < r.length * 25 := by rw [← rowC_len]; exact (List.getElem?_eq_some_iff.1 hj).1
  have hi : j / 25 < r.length := by omega
  have hm : j % 25 < 25 := by omega
  obtain ⟨q, hq, _, _, hc, _⟩ := h (j / 25) hi
  obtain rfl : p = q := Option.some.inj hq
  have he : (rowC r)[j / 25 * 25 + j % 25]? = some u := by rw [show j / 25 * 25 + j % 25 = j by omega]; exact hj
  rw [rowC_at r _ _ hi hm] at he
  have := hc _ _ he
  rwa [add_add, show j / 25 * 25 + j % 25 = j by omega] at this
theorem run_none {P : Program} {w : World} (base : Nat) (t ty e : TypeId) (i : TypeInfo) (size c : Nat) (ht : P.underlying t = some (.slice e)) (hi : P.info? e = some i) (v : Value) (n : Nat) (xs : List Value) (hown : w.ownsRow base e size v n xs) :
    (Builtin.append_ #[t, t] ty #[v, .slice none 0 c]).run P w = .ok v w := by
  rcases hown.2 with ⟨rfl, rfl⟩ | ⟨g, cap, cur, rfl, _, _, hnc, _⟩
  · simp [Builtin.append_, run_underlying ht, sizeOf, typeInfo, hi, Builtin.lenOf, Builtin.firstCells]
  · simp [Builtin.append_, run_underlying ht, sizeOf, typeInfo, hi, Builtin.lenOf, Builtin.firstCells, hnc, storeCells]
theorem LM.room {B S : Nat} {w : World} {a : Option Addr} {c : Nat} {l : List M} (h : LM B S w (.slice a l.length c) l) : l.length ≤ c := by
  rcases h.1.2 with ⟨hv, h0⟩ | ⟨g, cap, cur, hv, _, _, hcap, _⟩
  · omega
  · injection hv with _ _ hv
    omega
/-- append(v, x...), x a list of the call's own. -/
theorem wp_list {o : Oper} {A : Act} {w : World} {Q : Exit → Act → World → Prop} {K : Act → World → Prop} (s x : Operand)
    (ho : o.op = .call { callee := .builtin .append, args := #[s, x], argTypes := #[23, 23] }) (B S : Nat) (v : Value) (l r : List M) (a : Option Addr) (c : Nat)
    (hs : A.eval s = v) (hown : LM B S w v l) (hx : A.eval x = .slice a r.length c) (hr : MOwn S w a r)
    (hl : l.length + r.length ≤ 100000) (hB : B ≤ w.heap.size)
    (h : ∀ v' w', LM B S w' v' (l ++ r) → Below B w w' → w.grownBy w' v.ownBlock → K (A.put o.dst v') w') : Oper.wp Tryz.prog o A w K Q := by
  obtain ⟨i0, hi, hz, hsz, hby⟩ := infoA
  cases a with
  | none =>
    have hr0 : r = [] := by
      cases r with
      | nil => rfl
      | cons m r =>
        obtain ⟨q, hq, _⟩ := hr 0 (by simp)
        cases hq
    subst hr0
    have hrun := run_none (P := Tryz.prog) (w := w) B 23 o.type 43 i0 25 c Tryz.underlying23 hi v l.length (rowC l) hown.1
    unfold Oper.wp
    simp [execOp, ho, resolve, invoke, builtin, hs, hx, hrun, Result.andThen]
    exact h v w (by rw [List.append_nil]; exact hown) (Below.refl B w) ⟨rfl, rfl, rfl, Nat.le_refl _, fun _ _ _ => rfl⟩
  | some p =>
    refine wp_append_own w s x 23 ho B 43 i0 (.agg M.zero.cells) 25 i0.bytes Tryz.underlying23 hi hz hsz rfl rfl (by decide) v l.length (rowC l) hs hown.1 p r.length c (rowC r) hx (rowC_len r) (own_cells hr) rowC_one (by unfold maxLen; omega) ?_ hB ?_
    · have : (l.length + r.length) * i0.bytes ≤ 100000 * 4096 := Nat.mul_le_mul (by omega) hby
      omega
    · intro v' w' h2 h3 _
      refine h v' w' ⟨?_, fun m hm => ?_⟩ ((Below.refl B w).grown h3 hB (fun k hk => (World.ownsRow.lt hown.1 k hk).1)) h3
      · unfold Ap.Lst
        rw [rowC_app, List.length_append]
        exact h2
      · rcases List.mem_append.1 hm with k | k
        · exact ⟨(hown.2 m k).1, World.ownsRow.kept (hown.2 m k).2 h3 (own_ne (hown.2 m k).2 hown.1 (by decide))⟩
        · obtain ⟨i, hi, rfl⟩ := List.getElem_of_mem k
          obtain ⟨_, _, _, _, _, h5, h6⟩ := hr i hi
          exact ⟨h5, World.ownsRow.kept h6 h3 (own_ne h6 hown.1 (by decide))⟩
theorem app_list {ops : Array Oper} {rest : List Oper} {o : Oper} {A : Act} {w : World} {Q : Exit → Act → World → Prop} (hgd : o.guard = none) (s x : Operand)
    (ho : o.op = .call { callee := .builtin .append, args := #[s, x], argTypes := #[23, 23] }) (B S : Nat) (v : Value) (l r : List M) (a : Option Addr) (c : Nat)
    (hs : A.eval s = v) (hown : LM B S w v l) (hx : A.eval x = .slice a r.length c) (hr : MOwn S w a r)
    (hl : l.length + r.length ≤ 100000) (hB : B ≤ w.heap.size)
    (h : ∀ v' w', LM B S w' v' (l ++ r) → Below B w w' → w.grownBy w' v.ownBlock → wpList Tryz.prog ops Q rest (A.put o.dst v') w') : wpList Tryz.prog ops Q (o :: rest) A w :=
  wpList_plain hgd fun K hK => wp_list s x ho B S v l r a c hs hown hx hr hl hB fun v' w' h1 h2 h3 => hK _ _ (h v' w' h1 h2 h3)
end Go.Proofs.YtpkmpinbpfblfaaGreatDoor.Lm
