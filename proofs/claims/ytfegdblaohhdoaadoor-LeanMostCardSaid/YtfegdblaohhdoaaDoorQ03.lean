/-
  What stands beside a message's copy; the answer of a Get of messages with Subs alone: a message, whether it counts, an error; what few parts say. No conditions.
  A list of messages of a call's own, one appended behind the other: its cells, and that its messages stand in the world. No conditions.
  One operation of a region that draws its order, by hand: one alone, or two that may come next. No conditions.
  A list of TLVs of a call's own, one appended behind the other, or a list behind it: its cells, and that its TLVs stand in the world; whether two are the same. No conditions, but on the lengths.
  What came in, opened: a message by value, a list of messages: each is a message whose lists stand in the world.
  What is known as the program holds it: its block, loaded and stored whole; whether two are the same; lists of messages that are alike but for where their Subs stand; what a step answers; what came in, opened. No conditions.
  What the rows' condition gives the walks: from which length to which prefixes are, and how many bytes of an address stand, by its encoding, as the two listed variables have it when the call begins; that they have the same as long as nothing that was there is changed. Generic: the variables' numbers are marks.
  A cursor at work, whatever it is; the head of a datagram: the program's readHead, Body, Trailer, Wrap, and the document's. Condition: at most 2^20 bytes.
  Whether a prefix is one in an encoding, whether a message may be, a prefix's bytes and the prefix of bytes: the program's answers and the document's. Conditions: the message's lists stand in the world, and aren't long; the variable has what it is laid with.
  TLVs whose fields stand alone: which messages may be, their bytes, and which message a TLV says: definitions on values alone, and facts on them. No conditions.
  The messages of Babel's TLVs, of a body and of a datagram, and what is known behind them: definitions on values alone, and facts on them. No conditions.
  Babel's messages in as few bytes as what is known lets: their TLVs, and what these tell where it is known: definitions on values alone, and facts on them. No conditions.
  How many bytes two texts have alike: they are, and one more isn't. No conditions.
-/
import Derived.Test.YtfegdblaohhdoaaDoorQ01
import Derived.Test.YtfegdblaohhdoaaDoorQ02
import Derived.Laws.AppendOwn
import Derived.Laws.OwnMore
import Derived.Deep.AppendLies
import Derived.Deep.Slices
import Derived.Deep.Fields
import Derived.ChangeSame
import Derived.Carry
import Derived.Lib.SmallJoins
import Derived.Test.YtfegdblaohhdoaaDoorRows
import Derived.Below
import Derived.OpenShut
import Derived.LaidLaws
import Derived.LaidMore
import Derived.Lib.LaidTab
import Derived.Stop.LaidErr
namespace Go.Proofs.YtfegdblaohhdoaaDoor.An
open Go.ChangeShapes Go.WideShapes Go.ChangeAt Go.RowKit
open Go.Proofs.YtfegdblaohhdoaaDoor.Ms
open Go.Proofs.YtfegdblaohhdoaaDoor.Box
set_option linter.unusedVariables false
set_option maxRecDepth 100000
set_option maxRecDepth 100000
/-- What stays: the message's copy, its lists. -/
structure Fs (w W : World) (g : Nat) (f : M) : Prop where
  m : Bx W g f
  i : f.In W
  bel : Below w.heap.size w W
theorem Fs.call {w W w' : World} {g : Nat} {f : M} (h : Fs w W g f) (hb : Below W.heap.size W w') : Fs w w' g f := ⟨h.m.below hb, h.i.below hb, h.bel.trans (hb.mono h.bel.size)⟩
theorem Fs.new (w : World) (m : M) (hm : m.In w) : Fs w (w.alloc (.cells m.cells 29)) w.heap.size m := ⟨Bx.new w m, hm.below (balloc (Below.refl _ w) _), balloc (Below.refl _ w) _⟩
theorem Fs.drew {w W : World} {g : Nat} {f : M} (h : Fs w W g f) : Fs w W.drew g f := ⟨h.m, ⟨h.i.d, h.i.s, h.i.dl, h.i.sl⟩, h.bel.drew⟩
theorem few_parts {m : M} (h : Few.fewB m = true) : m.ll.length ≤ 300 ∧ m.sl.length ≤ 60 ∧ ∀ x ∈ m.sl, x.1.size ≤ 1099511627776 := by
  unfold Few.fewB at h
  simp only [Bool.and_eq_true, decide_eq_true_eq] at h
  refine ⟨h.1.1.1.1.1.1.1, h.1.1.1.1.1.1.2, fun x hx => ?_⟩
  have h2 := h.2
  unfold Few.small at h2
  rw [List.all_eq_true] at h2
  have := h2 x hx
  rw [decide_eq_true_eq] at this
  omega
theorem few_in {m : M} {w : World} (h : Few.fewB m = true) (hd : DRow w m.la m.ll) (hs : SRow w m.sa m.sl) : m.In w := ⟨hd, hs, by have := (few_parts h).1; omega, by have := (few_parts h).2.1; omega⟩
end Go.Proofs.YtfegdblaohhdoaaDoor.An
namespace Go.Proofs.YtfegdblaohhdoaaDoor.Ap
open Go.ChangeShapes Go.WideShapes Go.ChangeAt Go.RowKit
open Go.Proofs.YtfegdblaohhdoaaDoor.Ms
open Go.Proofs.YtfegdblaohhdoaaDoor.Box
set_option linter.unusedVariables false
set_option maxRecDepth 100000
set_option maxRecDepth 100000

theorem add_at (g o j : Nat) : (⟨g, o, none⟩ : Addr).add j = ⟨g, o + j, none⟩ := by
  unfold Addr.add
  split
  · rename_i h; rw [h]; rfl
  · rfl
end Go.Proofs.YtfegdblaohhdoaaDoor.Ap
namespace Go.Proofs.YtfegdblaohhdoaaDoor.Hy
open Go.ChangeShapes Go.WideShapes Go.ChangeAt Go.RowKit
open Go.Proofs.YtfegdblaohhdoaaDoor.Ms
set_option linter.unusedVariables false
set_option maxRecDepth 100000
set_option maxRecDepth 100000
section
variable {P : Program} {ops : Array Oper} {Q : Exit → Act → World → Prop} {md : Region.Mode} {S : World → Prop}
theorem H.one {i : Nat} {o : Oper} {fuel : Nat} {listed : Array Bool} {a : Act} {w : World}
    (ho : ops[i]? = some o) (hw : Region.wanted o (yielded ops a.tmps) = true) (hr : Region.ready md ops listed = [i])
    (h : ∀ K : Act → World → Prop, Hid (∀ a' w', S w' → wpAnyH P md ops Q S fuel (listed.setIfInBounds i true) a' w' → K a' w') → Oper.wp P o a w K Q) : wpAnyH P md ops Q S (fuel + 1) listed a w := by
  refine wpAnyH_ready (rs := [i]) hr (by simp) ?_
  refine AllReadyH.cons ho (fun K hK => ?_) AllReadyH.nil
  rw [if_pos hw]
  exact h K (Lib.hid (fun a' w' hS hW => hK.out a' w' hS (fun _ => hW)))
theorem wp_valW {o : Oper} {a : Act} {w w' : World} {K : Act → World → Prop} {d : Nat} {v : Value} (hd : o.dst = some d) (hy : (execOp a.eval o).run P w = .ok (.value v) w') (h : K (a.put (some d) v) w') : Oper.wp P o a w K Q := by
  unfold Oper.wp
  rw [hy]
  simp only [Oper.upon, hd]
  exact h
end
end Go.Proofs.YtfegdblaohhdoaaDoor.Hy
namespace Go.Proofs.YtfegdblaohhdoaaDoor.Tl
open Go.ChangeShapes Go.WideShapes Go.ChangeAt Go.RowKit
open Go.Proofs.YtfegdblaohhdoaaDoor.F1
open Go.Proofs.YtfegdblaohhdoaaDoor.Bk (Bk Sh)
open Go.Proofs.YtfegdblaohhdoaaDoor.Hy (H.one)
set_option linter.unusedVariables false
set_option maxRecDepth 100000
set_option maxRecDepth 100000

/-- The TLVs of a list stand in w. -/
def TRow (w : World) (a : Option Addr) (l : List T) : Prop :=
  ∀ i (h : i < l.length), ∃ p, a = some p ∧ p.block < w.heap.size ∧ w.cell? (p.add (i * 3)) = some (.int .i64 l[i].2.2) ∧ w.cell? ((p.add (i * 3)).add 1) = some (.int .i64 l[i].1) ∧ w.cell? ((p.add (i * 3)).add 2) = some (.string l[i].2.1)
theorem add_block (p : Addr) (n : Nat) : (p.add n).block = p.block := by unfold Addr.add; split <;> rfl
theorem TRow.below {w w' : World} {a : Option Addr} {l : List T} (h : TRow w a l) (hb : Below w.heap.size w w') : TRow w' a l := by
  intro i hi
  obtain ⟨p, h1, h2, h3, h4, h5⟩ := h i hi
  refine ⟨p, h1, Nat.lt_of_lt_of_le h2 hb.size, ?_, ?_, ?_⟩
  · rw [hb.cell (by rw [add_block]; exact h2)]; exact h3
  · rw [hb.cell (by rw [add_block, add_block]; exact h2)]; exact h4
  · rw [hb.cell (by rw [add_block, add_block]; exact h2)]; exact h5
/-- A TLV's cells. -/
def cellsT (x : T) : Array Value := #[.int .i64 x.2.2, .int .i64 x.1, .string x.2.1]
theorem oneT (x : T) : ((cellsT x).all fun x => x.oneCell') = true := by simp [cellsT, Value.oneCell']
theorem build_one (x : T) (w : World) : (Instr.buildSlice 36 1 #[(0, .agg (cellsT x))]).run Tryd.prog w = .ok (.slice (some ⟨w.heap.size, 0, none⟩) 1 1) (w.alloc (.cells (cellsT x) 40)) := by
  kernel_rfl
theorem ex_bs {o : Oper} {ρ : Operand → Value} {x : Operand} {m : T} {w : World} (ho : o.op = .buildSlice 36 1 #[(0, x)]) (hx : ρ x = .agg (cellsT m)) :
    (execOp ρ o).run Tryd.prog w = .ok (.value (.slice (some ⟨w.heap.size, 0, none⟩) 1 1)) (w.alloc (.cells (cellsT m) 40)) := by
  have e : ((#[(0, x)] : Array (Nat × Operand)).map fun (i, x) => (i, ρ x)) = #[(0, .agg (cellsT m))] := by simp [hx]
  unfold execOp
  simp only [ho, Sem.run_bind, e, build_one, Result.andThen_ok, Sem.run_pure]
theorem bs_one {ops : Array Oper} {rest : List Oper} {o : Oper} {a : Act} {w : World} {Q : Exit → Act → World → Prop} (hgd : o.guard = none) (x : Operand) (ho : o.op = .buildSlice 36 1 #[(0, x)])
    {m : T} (hx : a.eval x = .agg (cellsT m)) (h : wpList Tryd.prog ops Q rest (a.put o.dst (.slice (some ⟨w.heap.size, 0, none⟩) 1 1)) (w.alloc (.cells (cellsT m) 40))) : wpList Tryd.prog ops Q (o :: rest) a w :=
  wpList_plain hgd fun K hK => by
    unfold Oper.wp
    rw [ex_bs ho hx]
    exact hK _ _ h
theorem add_at (g o j : Nat) : (⟨g, o, none⟩ : Addr).add j = ⟨g, o + j, none⟩ := by
  unfold Addr.add
  split
  · rename_i h; rw [h]; rfl
  · rfl
/-- The cells of a list of TLVs. -/
def rowT (l : List T) : List Value := l.flatMap fun x => (cellsT x).toList
theorem rowT_snoc (l : List T) (m : T) : rowT (l ++ [m]) = rowT l ++ (cellsT m).toList := by simp [rowT]
theorem rowT_at : ∀ (l : List T) (i j : Nat) (h : i < l.length), j < 3 → (rowT l)[i * 3 + j]? = ((cellsT l[i]).toList)[j]?
  | [], i, j, h, _ => absurd h (by simp)
  | m :: l, 0, j, h, hj => by
    have : rowT (m :: l) = (cellsT m).toList ++ rowT l := by simp [rowT]
    rw [this, Nat.zero_mul, Nat.zero_add, List.getElem?_append_left (by show j < (cellsT m).toList.length; exact hj)]
    rfl
  | m :: l, i + 1, j, h, hj => by
    have e : rowT (m :: l) = (cellsT m).toList ++ rowT l := by simp [rowT]
    have hl : (cellsT m).toList.length = 3 := rfl
    rw [e, List.getElem?_append_right (by rw [hl]; omega), hl, show (i + 1) * 3 + j - 3 = i * 3 + j by omega, rowT_at l i j (by simpa using h) hj]
    rfl
theorem infoT : ∃ i, Tryd.prog.info? 40 = some i ∧ i.zero = some (.agg #[.int .i64 0, .int .i64 0, .string ByteArray.empty]) ∧ i.size = 3 ∧ i.bytes ≤ 4096 := by
  have h : (Tryd.prog.info? 40).map (fun i => (i.zero, i.size, decide (i.bytes ≤ 4096))) = some (some (.agg #[.int .i64 0, .int .i64 0, .string ByteArray.empty]), 3, true) := by kernel_rfl
  obtain ⟨i, hi, hz⟩ := Option.map_eq_some_iff.1 h
  simp only [Prod.mk.injEq, decide_eq_true_eq] at hz
  exact ⟨i, hi, hz⟩

/-- The call's own list of the TLVs l (what is new begins at block B). -/
def Lst (B : Nat) (w : World) (v : Value) (l : List T) : Prop := w.ownsRow B 40 3 v l.length (rowT l)
theorem Lst.nil (B : Nat) (w : World) : Lst B w (.slice none 0 0) [] := World.ownsRow_nil w B _ 3
theorem Lst.below {B : Nat} {w w' : World} {v : Value} {l : List T} (h : Lst B w v l) (hb : Below w.heap.size w w') : Lst B w' v l := by
  refine ⟨h.1, ?_⟩
  rcases h.2 with h | ⟨g, cap, cur, a, b, c, d⟩
  · exact .inl h
  · exact .inr ⟨g, cap, cur, a, b, (hb.block g (Array.getElem?_eq_some_iff.1 c).1).trans c, d⟩
theorem Lst.slice {B : Nat} {w : World} {v : Value} {l : List T} (h : Lst B w v l) : ∃ a c, v = .slice a l.length c := by
  rcases h.2 with ⟨hv, h0⟩ | ⟨g, cap, cur, hv, _⟩
  · exact ⟨none, 0, by rw [hv, h0]⟩
  · exact ⟨_, _, hv⟩
theorem Lst.row {B : Nat} {w : World} {a : Option Addr} {c : Nat} {l : List T} (h : Lst B w (.slice a l.length c) l) : TRow w a l := by
  intro i hi
  rcases h.2 with ⟨_, h0⟩ | ⟨g, cap, cur, hv, hb, hg, _⟩
  · omega
  · simp at hv
    obtain ⟨rfl, rfl⟩ := hv
    have hat : ∀ j v, j < 3 → ((cellsT l[i]).toList)[j]? = some v → w.cell? (((⟨g, 0, none⟩ : Addr).add (i * 3)).add j) = some v := fun j v hj hv => by
      have := World.ownsRow.cells h (g := g) rfl (i * 3 + j) v (by rw [rowT_at l i j hi hj]; exact hv)
      rw [add_at] at this
      rw [add_at, add_at, Nat.add_assoc]
      exact this
    exact ⟨⟨g, 0, none⟩, rfl, (Array.getElem?_eq_some_iff.1 hg).1, hat 0 _ (by decide) rfl, hat 1 _ (by decide) rfl, hat 2 _ (by decide) rfl⟩

theorem cells_new (m : T) (w : World) : ∀ j u, ((cellsT m).toList)[j]? = some u → (w.alloc (.cells (cellsT m) 40)).cell? ((⟨w.heap.size, 0, none⟩ : Addr).add j) = some u := by
  intro j u hu
  have := (Bk.Bk.new 40 w (cellsT m)).cell j u (by simpa using hu)
  rw [add_at, Nat.zero_add]
  exact this

theorem wp_app {o : Oper} {a : Act} {w : World} {Q : Exit → Act → World → Prop} {K : Act → World → Prop} (s x : Operand)
    (ho : o.op = .call { callee := .builtin .append, args := #[s, x], argTypes := #[36, 36] }) (B : Nat) (v : Value) (l : List T) (m : T) (g c : Nat)
    (hs : a.eval s = v) (hown : Lst B w v l) (hx : a.eval x = .slice (some ⟨g, 0, none⟩) 1 c) (hm : ∀ j u, ((cellsT m).toList)[j]? = some u → w.cell? ((⟨g, 0, none⟩ : Addr).add j) = some u)
    (hl : l.length ≤ 100000) (hB : B ≤ w.heap.size)
    (h : ∀ v' w', Lst B w' v' (l ++ [m]) → w.grownBy w' v.ownBlock → Below B w w' → K (a.put o.dst v') w') : Oper.wp Tryd.prog o a w K Q := by
  obtain ⟨i0, hi, hz, hsz, hby⟩ := infoT
  refine wp_append_own w s x 36 ho B 40 i0 (.agg #[.int .i64 0, .int .i64 0, .string ByteArray.empty]) 3 i0.bytes Tryd.underlying36 hi hz hsz rfl rfl (by decide) v l.length (rowT l) hs hown ⟨g, 0, none⟩ 1 c (cellsT m).toList hx rfl hm ?_ (by unfold maxLen; omega) ?_ hB ?_
  · intro u hu
    have := oneT m
    rw [Array.all_eq_true_iff_forall_mem] at this
    exact this u (by simpa using hu)
  · have : (l.length + 1) * i0.bytes ≤ 100001 * 4096 := Nat.mul_le_mul (by omega) hby
    omega
  · intro v' w' h2 h3 _
    refine h v' w' ?_ h3 ((Below.refl B w).grown h3 hB (fun k hk => (World.ownsRow.lt hown k hk).1))
    unfold Lst
    rw [rowT_snoc, List.length_append]
    exact h2
/-- append(v, m), behind the making of the list of m alone. -/
theorem app_one {ops : Array Oper} {rest : List Oper} {o : Oper} {a : Act} {w : World} {Q : Exit → Act → World → Prop} (hgd : o.guard = none) (s x : Operand)
    (ho : o.op = .call { callee := .builtin .append, args := #[s, x], argTypes := #[36, 36] }) (B : Nat) (v : Value) (l : List T) (m : T) (g c : Nat)
    (hs : a.eval s = v) (hown : Lst B w v l) (hx : a.eval x = .slice (some ⟨g, 0, none⟩) 1 c) (hm : ∀ j u, ((cellsT m).toList)[j]? = some u → w.cell? ((⟨g, 0, none⟩ : Addr).add j) = some u)
    (hl : l.length ≤ 100000) (hB : B ≤ w.heap.size)
    (h : ∀ v' w', Lst B w' v' (l ++ [m]) → w.grownBy w' v.ownBlock → Below B w w' → wpList Tryd.prog ops Q rest (a.put o.dst v') w') : wpList Tryd.prog ops Q (o :: rest) a w :=
  wpList_plain hgd fun K hK => wp_app s x ho B v l m g c hs hown hx hm hl hB fun v' w' h1 h2 h3 => hK _ _ (h v' w' h1 h2 h3)

section
variable {ops : Array Oper} {Q : Exit → Act → World → Prop} {md : Region.Mode} {S : World → Prop}
/-- []api.Tlv{m} -/
theorem H.bsT {i d : Nat} {o : Oper} {fuel : Nat} {listed : Array Bool} {a : Act} {w : World}
    (ho : ops[i]? = some o) (hw : Region.wanted o (yielded ops a.tmps) = true) (hr : Region.ready md ops listed = [i]) (hd : o.dst = some d)
    (x : Operand) (hop : o.op = .buildSlice 36 1 #[(0, x)]) {m : T} (hx : a.eval x = .agg (cellsT m)) (hS : S (w.alloc (.cells (cellsT m) 40)))
    (h : wpAnyH Tryd.prog md ops Q S fuel (listed.setIfInBounds i true) (a.put (some d) (.slice (some ⟨w.heap.size, 0, none⟩) 1 1)) (w.alloc (.cells (cellsT m) 40))) : wpAnyH Tryd.prog md ops Q S (fuel + 1) listed a w := by
  refine H.one ho hw hr (fun K hK => ?_)
  unfold Oper.wp
  rw [ex_bs hop hx]
  simp only [Oper.upon, hd]
  exact hK.out _ _ hS h
/-- append(v, m), behind the making of the list of m alone. -/
theorem H.appT {i d : Nat} {o : Oper} {fuel : Nat} {listed : Array Bool} {a : Act} {w : World}
    (ho : ops[i]? = some o) (hw : Region.wanted o (yielded ops a.tmps) = true) (hr : Region.ready md ops listed = [i]) (hd : o.dst = some d)
    (s x : Operand) (hop : o.op = .call { callee := .builtin .append, args := #[s, x], argTypes := #[36, 36] }) (B : Nat) (v : Value) (l : List T) (m : T) (g c : Nat)
    (hs : a.eval s = v) (hown : Lst B w v l) (hx : a.eval x = .slice (some ⟨g, 0, none⟩) 1 c) (hm : ∀ j u, ((cellsT m).toList)[j]? = some u → w.cell? ((⟨g, 0, none⟩ : Addr).add j) = some u)
    (hl : l.length ≤ 100000) (hB : B ≤ w.heap.size) (hS : ∀ w', w.grownBy w' v.ownBlock → S w')
    (h : ∀ v' w', Lst B w' v' (l ++ [m]) → w.grownBy w' v.ownBlock → Below B w w' → wpAnyH Tryd.prog md ops Q S fuel (listed.setIfInBounds i true) (a.put (some d) v') w') : wpAnyH Tryd.prog md ops Q S (fuel + 1) listed a w := by
  refine H.one ho hw hr (fun K hK => ?_)
  refine wp_app s x hop B v l m g c hs hown hx hm hl hB fun v' w' h1 h2 h3 => ?_
  rw [hd]
  exact hK.out _ _ (hS w' h2) (h v' w' h1 h2 h3)
end
theorem indexT (p : Addr) (n c i : Nat) (h : i < n) (W : World) : (Instr.indexAt 36 (.slice (some p) n c) (.int .i64 (i : Int))).run Tryd.prog W = .ok (.pointer (some (p.add (i * 3)))) W := by
  have he : Tryd.prog.elem 36 = 40 := by simp [Program.elem, Tryd.underlying36]
  have hz : (sizeOf 40).run Tryd.prog W = .ok 3 W := by go_simp
  rw [run_indexAt_slice W 36 p n c .i64 (i : Int) (by rw [he]; exact Tryd.underlying36), if_pos (by omega), he, hz]
  rfl
end Go.Proofs.YtfegdblaohhdoaaDoor.Tl
namespace Go.Proofs.YtfegdblaohhdoaaDoor.Open
open Go.ChangeShapes Go.WideShapes Go.ChangeAt Go.RowKit Go.Deep
open Go.Proofs.YtfegdblaohhdoaaDoor.Ms
open Go.Proofs.YtfegdblaohhdoaaDoor.Box
open Go.Proofs.YtfegdblaohhdoaaDoor.Few
set_option linter.unusedVariables false
set_option maxRecDepth 100000

section
variable {H : Type} {enc : TypeId × Value → H} {W : World}

/-- A struct whose fields take one cell each reads field by field: field j's reading is that of cell j. -/
theorem each_field {t : TypeId} {fds : Array Field} (ht : Tryd.prog.underlying t = some (.struct fds)) (hone : oneCellFields Tryd.prog fds = true) {fuel : Nat} {cs : List Value} {x : DataW H × List MemPlace}
    (h : DataW.trod enc Tryd.prog W 0 (fun _ => true) true fuel t cs = some x) :
    cs.length = Tryd.prog.cellsOf t ∧ ∃ n, ∀ (j : Nat) (f : Field), fds[j]? = some f → ∃ y, DataW.trod enc Tryd.prog W 0 (fun _ => true) true n f.type ((cs.drop j).take 1) = some y := by
  obtain ⟨xs, n, _, _, hlen, hxl, hf⟩ := DataW.trod_struct ht h
  refine ⟨hlen, n, fun j f hj => ?_⟩
  have h1 := hf j f hj
  rw [(hone_of hone j f hj).1, (hone_of hone j f hj).2] at h1
  have hjl : j < xs.length := by rw [hxl]; exact (Array.getElem?_eq_some_iff.1 hj).1
  exact ⟨xs[j], h1.trans (List.getElem?_eq_getElem hjl)⟩

theorem els {α : Type} {n : Nat} {R : Nat → α → Prop} (h : ∀ i, i < n → ∃ x, R i x) : ∃ l : List α, l.length = n ∧ ∀ i (hi : i < l.length), R i l[i] := by
  induction n with
  | zero => exact ⟨[], rfl, fun i hi => absurd hi (by simp)⟩
  | succ n ih =>
    obtain ⟨l, hl, hr⟩ := ih fun i hi => h i (by omega)
    obtain ⟨x, hx⟩ := h n (by omega)
    refine ⟨l ++ [x], by simp [hl], fun i hi => ?_⟩
    by_cases hin : i < l.length
    · rw [List.getElem_append_left hin]; exact hr i hin
    · obtain rfl : i = l.length := by simp at hi; omega
      rw [List.getElem_append_right (Nat.le_refl _)]
      simp only [Nat.sub_self, List.getElem_cons_zero]
      rw [hl]; exact hx

theorem open_dests {fuel : Nat} {cs : List Value} {x : DataW H × List MemPlace} (h : DataW.trod enc Tryd.prog W 0 (fun _ => true) true fuel 26 cs = some x) :
    ∃ (a : Option Addr) (l : List El) (c : Nat), cs = [.slice a l.length c] ∧ DRow W a l ∧ l.length ≤ 9223372036854775807 := by
  have hz : Tryd.prog.cellsOf 43 = 2 := by kernel_rfl
  rcases open_slice Tryd.underlying26 h with h0 | ⟨a, len, cap, m, n, D, Pl, hcs, _, hl, hm, hmm, _, hi⟩
  · exact ⟨none, [], 0, h0.1, DRow.nil _ _, by simp⟩
  · obtain ⟨l, hll, hr⟩ := els (n := len) (R := fun i (x : El) => W.cell? (a.add (i * 2)) = some (.string x.1) ∧ W.cell? ((a.add (i * 2)).add 1) = some (.int .i64 x.2)) (fun i hin => by
      obtain ⟨ds, hc, ht⟩ := hi i (by rw [hmm]; split <;> omega)
      rw [hz] at hc
      obtain ⟨hlen, k, hf⟩ := each_field Tryd.underlying43 (by kernel_rfl) ht
      rw [hz] at hlen
      obtain ⟨_, _, hat⟩ := World.cells?_some hc
      have e0 := hat 0 (by decide)
      have e1 := hat 1 (by decide)
      match ds, hlen with
      | [d0, d1], _ =>
        obtain ⟨y0, g0⟩ := hf 0 _ rfl
        obtain ⟨y1, g1⟩ := hf 1 _ rfl
        obtain ⟨u0, q0, _, _⟩ := DataW.trod_string Tryd.underlying9 (show DataW.trod enc Tryd.prog W 0 (fun _ => true) true k 9 [d0] = some y0 from g0)
        obtain ⟨u1, q1, _, _⟩ := DataW.trod_int Tryd.underlying3 (show DataW.trod enc Tryd.prog W 0 (fun _ => true) true k 3 [d1] = some y1 from g1)
        obtain rfl := (List.cons.inj q0).1
        obtain rfl := (List.cons.inj q1).1
        exact ⟨(u0, u1), e0, e1⟩)
    refine ⟨some a, l, cap, by rw [hll]; exact hcs, fun i hin => ⟨a, rfl, ?_, hr i hin⟩, by unfold maxLen at hm; omega⟩
    have := block_lt_of_cell (hr i hin).1
    rwa [add_block] at this
theorem open_subs {fuel : Nat} {cs : List Value} {x : DataW H × List MemPlace} (h : DataW.trod enc Tryd.prog W 0 (fun _ => true) true fuel 27 cs = some x) :
    ∃ (a : Option Addr) (l : List El) (c : Nat), cs = [.slice a l.length c] ∧ SRow W a l ∧ l.length ≤ 9223372036854775807 := by
  have hz : Tryd.prog.cellsOf 45 = 2 := by kernel_rfl
  rcases open_slice Tryd.underlying27 h with h0 | ⟨a, len, cap, m, n, D, Pl, hcs, _, hl, hm, hmm, _, hi⟩
  · exact ⟨none, [], 0, h0.1, SRow.nil _ _, by simp⟩
  · obtain ⟨l, hll, hr⟩ := els (n := len) (R := fun i (x : El) => W.cell? (a.add (i * 2)) = some (.int .i64 x.2) ∧ W.cell? ((a.add (i * 2)).add 1) = some (.string x.1)) (fun i hin => by
      obtain ⟨ds, hc, ht⟩ := hi i (by rw [hmm]; split <;> omega)
      rw [hz] at hc
      obtain ⟨hlen, k, hf⟩ := each_field Tryd.underlying45 (by kernel_rfl) ht
      rw [hz] at hlen
      obtain ⟨_, _, hat⟩ := World.cells?_some hc
      have e0 := hat 0 (by decide)
      have e1 := hat 1 (by decide)
      match ds, hlen with
      | [d0, d1], _ =>
        obtain ⟨y0, g0⟩ := hf 0 _ rfl
        obtain ⟨y1, g1⟩ := hf 1 _ rfl
        obtain ⟨u0, q0, _, _⟩ := DataW.trod_int Tryd.underlying3 (show DataW.trod enc Tryd.prog W 0 (fun _ => true) true k 3 [d0] = some y0 from g0)
        obtain ⟨u1, q1, _, _⟩ := DataW.trod_string Tryd.underlying9 (show DataW.trod enc Tryd.prog W 0 (fun _ => true) true k 9 [d1] = some y1 from g1)
        obtain rfl := (List.cons.inj q0).1
        obtain rfl := (List.cons.inj q1).1
        exact ⟨(u1, u0), e0, e1⟩)
    refine ⟨some a, l, cap, by rw [hll]; exact hcs, fun i hin => ⟨a, rfl, ?_, hr i hin⟩, by unfold maxLen at hm; omega⟩
    have := block_lt_of_cell (hr i hin).1
    rwa [add_block] at this

theorem cellsM : Tryd.prog.cellsOf 29 = 25 := by kernel_rfl

set_option maxHeartbeats 1600000 in
theorem open_msg {fuel : Nat} {cs : List Value} {x : DataW H × List MemPlace} (h : DataW.trod enc Tryd.prog W 0 (fun _ => true) true fuel 29 cs = some x) :
    ∃ m : M, cs = m.cells.toList ∧ DRow W m.la m.ll ∧ SRow W m.sa m.sl := by
  obtain ⟨hlen, n, go⟩ := each_field Tryd.underlying29 (by kernel_rfl) h
  rw [cellsM] at hlen
  clear h
  match cs, hlen with
  | [c0, c1, c2, c3, c4, c5, c6, c7, c8, c9, c10, c11, c12, c13, c14, c15, c16, c17, c18, c19, c20, c21, c22, c23, c24], _ =>
    obtain ⟨y0, h0⟩ := go 0 _ rfl
    obtain ⟨k0, e0, _, _⟩ := DataW.trod_int Tryd.underlying3 (show DataW.trod enc Tryd.prog W 0 (fun _ => true) true n 3 [c0] = some y0 from h0)
    obtain rfl := (List.cons.inj e0).1
    clear e0
    obtain ⟨y1, h1⟩ := go 1 _ rfl
    obtain ⟨k1, e1, _, _⟩ := DataW.trod_int Tryd.underlying3 (show DataW.trod enc Tryd.prog W 0 (fun _ => true) true n 3 [c1] = some y1 from h1)
    obtain rfl := (List.cons.inj e1).1
    clear e1
    obtain ⟨y2, h2⟩ := go 2 _ rfl
    obtain ⟨k2, e2, _, _⟩ := DataW.trod_int Tryd.underlying3 (show DataW.trod enc Tryd.prog W 0 (fun _ => true) true n 3 [c2] = some y2 from h2)
    obtain rfl := (List.cons.inj e2).1
    clear e2
    obtain ⟨y3, h3⟩ := go 3 _ rfl
    obtain ⟨k3, e3, _, _⟩ := DataW.trod_string Tryd.underlying9 (show DataW.trod enc Tryd.prog W 0 (fun _ => true) true n 9 [c3] = some y3 from h3)
    obtain rfl := (List.cons.inj e3).1
    clear e3
    obtain ⟨y4, h4⟩ := go 4 _ rfl
    obtain ⟨k4, e4, _, _⟩ := DataW.trod_int Tryd.underlying3 (show DataW.trod enc Tryd.prog W 0 (fun _ => true) true n 3 [c4] = some y4 from h4)
    obtain rfl := (List.cons.inj e4).1
    clear e4
    obtain ⟨y5, h5⟩ := go 5 _ rfl
    obtain ⟨k5, e5, _, _⟩ := DataW.trod_int Tryd.underlying3 (show DataW.trod enc Tryd.prog W 0 (fun _ => true) true n 3 [c5] = some y5 from h5)
    obtain rfl := (List.cons.inj e5).1
    clear e5
    obtain ⟨y6, h6⟩ := go 6 _ rfl
    obtain ⟨k6, e6, _, _⟩ := DataW.trod_string Tryd.underlying9 (show DataW.trod enc Tryd.prog W 0 (fun _ => true) true n 9 [c6] = some y6 from h6)
    obtain rfl := (List.cons.inj e6).1
    clear e6
    obtain ⟨y7, h7⟩ := go 7 _ rfl
    obtain ⟨k7, e7, _, _⟩ := DataW.trod_int Tryd.underlying3 (show DataW.trod enc Tryd.prog W 0 (fun _ => true) true n 3 [c7] = some y7 from h7)
    obtain rfl := (List.cons.inj e7).1
    clear e7
    obtain ⟨y8, h8⟩ := go 8 _ rfl
    obtain ⟨k8, e8, _, _⟩ := DataW.trod_int Tryd.underlying3 (show DataW.trod enc Tryd.prog W 0 (fun _ => true) true n 3 [c8] = some y8 from h8)
    obtain rfl := (List.cons.inj e8).1
    clear e8
    obtain ⟨y9, h9⟩ := go 9 _ rfl
    obtain ⟨k9, e9, _, _⟩ := DataW.trod_string Tryd.underlying9 (show DataW.trod enc Tryd.prog W 0 (fun _ => true) true n 9 [c9] = some y9 from h9)
    obtain rfl := (List.cons.inj e9).1
    clear e9
    obtain ⟨y10, h10⟩ := go 10 _ rfl
    obtain ⟨k10, e10, _, _⟩ := DataW.trod_int Tryd.underlying3 (show DataW.trod enc Tryd.prog W 0 (fun _ => true) true n 3 [c10] = some y10 from h10)
    obtain rfl := (List.cons.inj e10).1
    clear e10
    obtain ⟨y11, h11⟩ := go 11 _ rfl
    obtain ⟨k11, e11, _, _⟩ := DataW.trod_string Tryd.underlying9 (show DataW.trod enc Tryd.prog W 0 (fun _ => true) true n 9 [c11] = some y11 from h11)
    obtain rfl := (List.cons.inj e11).1
    clear e11
    obtain ⟨y12, h12⟩ := go 12 _ rfl
    obtain ⟨k12, e12, _, _⟩ := DataW.trod_int Tryd.underlying3 (show DataW.trod enc Tryd.prog W 0 (fun _ => true) true n 3 [c12] = some y12 from h12)
    obtain rfl := (List.cons.inj e12).1
    clear e12
    obtain ⟨y13, h13⟩ := go 13 _ rfl
    obtain ⟨k13, e13, _, _⟩ := DataW.trod_int Tryd.underlying3 (show DataW.trod enc Tryd.prog W 0 (fun _ => true) true n 3 [c13] = some y13 from h13)
    obtain rfl := (List.cons.inj e13).1
    clear e13
    obtain ⟨y14, h14⟩ := go 14 _ rfl
    obtain ⟨k14, e14, _, _⟩ := DataW.trod_int Tryd.underlying3 (show DataW.trod enc Tryd.prog W 0 (fun _ => true) true n 3 [c14] = some y14 from h14)
    obtain rfl := (List.cons.inj e14).1
    clear e14
    obtain ⟨y15, h15⟩ := go 15 _ rfl
    obtain ⟨k15, e15, _, _⟩ := DataW.trod_int Tryd.underlying3 (show DataW.trod enc Tryd.prog W 0 (fun _ => true) true n 3 [c15] = some y15 from h15)
    obtain rfl := (List.cons.inj e15).1
    clear e15
    obtain ⟨y16, h16⟩ := go 16 _ rfl
    obtain ⟨k16, e16, _, _⟩ := DataW.trod_int Tryd.underlying3 (show DataW.trod enc Tryd.prog W 0 (fun _ => true) true n 3 [c16] = some y16 from h16)
    obtain rfl := (List.cons.inj e16).1
    clear e16
    obtain ⟨y17, h17⟩ := go 17 _ rfl
    obtain ⟨k17, e17, _, _⟩ := DataW.trod_int Tryd.underlying3 (show DataW.trod enc Tryd.prog W 0 (fun _ => true) true n 3 [c17] = some y17 from h17)
    obtain rfl := (List.cons.inj e17).1
    clear e17
    obtain ⟨y18, h18⟩ := go 18 _ rfl
    obtain ⟨k18, e18, _, _⟩ := DataW.trod_int Tryd.underlying3 (show DataW.trod enc Tryd.prog W 0 (fun _ => true) true n 3 [c18] = some y18 from h18)
    obtain rfl := (List.cons.inj e18).1
    clear e18
    obtain ⟨y19, h19⟩ := go 19 _ rfl
    obtain ⟨k19, e19, _, _⟩ := DataW.trod_string Tryd.underlying9 (show DataW.trod enc Tryd.prog W 0 (fun _ => true) true n 9 [c19] = some y19 from h19)
    obtain rfl := (List.cons.inj e19).1
    clear e19
    obtain ⟨y20, h20⟩ := go 20 _ rfl
    obtain ⟨k20, e20, _, _⟩ := DataW.trod_string Tryd.underlying9 (show DataW.trod enc Tryd.prog W 0 (fun _ => true) true n 9 [c20] = some y20 from h20)
    obtain rfl := (List.cons.inj e20).1
    clear e20
    obtain ⟨y21, h21⟩ := go 21 _ rfl
    obtain ⟨a21, l21, n21, e21, r21, _⟩ := open_dests (show DataW.trod enc Tryd.prog W 0 (fun _ => true) true n 26 [c21] = some y21 from h21)
    obtain rfl := (List.cons.inj e21).1
    clear e21
    obtain ⟨y22, h22⟩ := go 22 _ rfl
    obtain ⟨k22, e22, _, _⟩ := DataW.trod_int Tryd.underlying3 (show DataW.trod enc Tryd.prog W 0 (fun _ => true) true n 3 [c22] = some y22 from h22)
    obtain rfl := (List.cons.inj e22).1
    clear e22
    obtain ⟨y23, h23⟩ := go 23 _ rfl
    obtain ⟨k23, e23, _, _⟩ := DataW.trod_string Tryd.underlying9 (show DataW.trod enc Tryd.prog W 0 (fun _ => true) true n 9 [c23] = some y23 from h23)
    obtain rfl := (List.cons.inj e23).1
    clear e23
    obtain ⟨y24, h24⟩ := go 24 _ rfl
    obtain ⟨a24, l24, n24, e24, r24, _⟩ := open_subs (show DataW.trod enc Tryd.prog W 0 (fun _ => true) true n 27 [c24] = some y24 from h24)
    obtain rfl := (List.cons.inj e24).1
    clear e24
    exact ⟨⟨k0, k1, k2, k3, k4, k5, k6, k7, k8, k9, k10, k11, k12, k13, k14, k15, k16, k17, k18, k19, k20, a21, l21, n21, k22, k23, a24, l24, n24⟩, rfl, r21, r24⟩

theorem laidOut : laidOutB Tryd.prog = true := by kernel_rfl
theorem again {t : TypeId} (hr : Tryd.prog.readableRec t = true) (hrow : t < Tryd.prog.types.size) {W' : World} {v : Value} {d : DataW H} {ps : List MemPlace}
    (h : DataW.Trod enc Tryd.prog W 0 (fun _ => true) true t v d ps) (hb : Below W.heap.size W W') (hlt : ∀ x ∈ ps, x.block < W.heap.size) :
    DataW.Trod enc Tryd.prog W' 0 (fun b => decide (b < W.heap.size)) true t v d ps := Below.trod laidOut hr hrow h hb hlt
end
end Go.Proofs.YtfegdblaohhdoaaDoor.Open
namespace Go.Proofs.YtfegdblaohhdoaaDoor.Kb
open Go.ChangeShapes Go.WideShapes Go.ChangeAt Go.RowKit Go.Joins
open Go.Proofs.YtfegdblaohhdoaaDoor.Ms
open Go.Proofs.YtfegdblaohhdoaaDoor.Box
open Go.Proofs.YtfegdblaohhdoaaDoor.An
open Go.Proofs.YtfegdblaohhdoaaDoor.K1
open Go.Proofs.YtfegdblaohhdoaaDoor.F1 (T)
open Go.Proofs.YtfegdblaohhdoaaDoor.Ap (add_at)
open Go.Proofs.YtfegdblaohhdoaaDoor.Tl (cellsT TRow)
open Go.Proofs.YtfegdblaohhdoaaDoor.Open (each_field els open_msg)
open Go.Proofs.YtfegdblaohhdoaaDoor.Bk (Bk Sh alloc_size wpList_loadK wpList_storeK run_loadK)
open Go.Deep
set_option linter.unusedVariables false
set_option maxRecDepth 100000
set_option maxRecDepth 100000
theorem shX : Sh Tryd.prog 25 7 := ⟨_, Tryd.underlying25, by kernel_rfl⟩
theorem oneX (x : Kx) : (x.cells.all fun x => x.oneCell') = true := by simp [Kx.cells, Value.oneCell']
theorem wpList_loadX {ops : Array Oper} {rest : List Oper} {o : Oper} {a : Act} {w : World} {Q : Exit → Act → World → Prop} (hgd : o.guard = none) (x : Operand) (ho : o.op = .load 25 x) {b : Nat} (hx : a.eval x = .pointer (some ⟨b, 0, none⟩)) {m : Kx} (hb : Bk 25 w b m.cells)
    (h : wpList Tryd.prog ops Q rest (a.put o.dst (.agg m.cells)) w) : wpList Tryd.prog ops Q (o :: rest) a w := wpList_loadK shX hgd x ho hx hb rfl h
theorem wpList_storeX {ops : Array Oper} {rest : List Oper} {o : Oper} {a : Act} {w : World} {Q : Exit → Act → World → Prop} (hgd : o.guard = none) (x y : Operand) (ho : o.op = .store 25 x y) {b : Nat} (hx : a.eval x = .pointer (some ⟨b, 0, none⟩)) {m m' : Kx} (hy : a.eval y = .agg m'.cells) (hb : Bk 25 w b m.cells)
    (h : wpList Tryd.prog ops Q rest (a.put o.dst undef) (w.setRow b m'.cells)) : wpList Tryd.prog ops Q (o :: rest) a w := wpList_storeK shX hgd x y ho hx hy hb rfl rfl (oneX m') h

section
variable {H : Type} {enc : TypeId × Value → H} {W : World}
theorem open_msgP {fuel : Nat} {cs : List Value} {x : DataW H × List MemPlace} (h : DataW.trod enc Tryd.prog W 0 (fun _ => true) true fuel 29 cs = some x) :
    ∃ m : M, cs = m.cells.toList ∧ DRow W m.la m.ll ∧ SRow W m.sa m.sl ∧ m.pfx.size ≤ maxLen := by
  obtain ⟨m, rfl, hd, hs⟩ := open_msg h
  refine ⟨m, rfl, hd, hs, ?_⟩
  obtain ⟨_, n, go⟩ := each_field Tryd.underlying29 (by kernel_rfl) h
  obtain ⟨y6, h6⟩ := go 6 _ rfl
  obtain ⟨k6, e6, _, z6⟩ := DataW.trod_string Tryd.underlying9 (show DataW.trod enc Tryd.prog W 0 (fun _ => true) true n 9 [.string m.pfx] = some y6 from h6)
  have e : m.pfx = k6 := by
    have := (List.cons.inj e6).1
    injection this
  rw [e]
  exact z6
theorem by_valueP {base : Nat} {v : Value} {d : DataW H} {p : List MemPlace} (hv : Value.okWide Tryd.prog W .any base 29 v) (h : DataW.Trod enc Tryd.prog W 0 (fun _ => true) true 29 v d p) :
    ∃ m : M, v = .agg m.cells ∧ DRow W m.la m.ll ∧ SRow W m.sa m.sl ∧ m.pfx.size ≤ maxLen := by
  obtain ⟨cs, rfl, hsz⟩ := okWide_struct Tryd.underlying29 hv
  obtain ⟨fuel, hf⟩ := h
  obtain ⟨m, hm, hd, hs, hp⟩ := open_msgP hf
  have : cs = m.cells := Array.ext' hm
  subst this
  exact ⟨m, rfl, hd, hs, hp⟩
theorem cellsX : Tryd.prog.cellsOf 25 = 7 := by kernel_rfl
theorem trod_struct3 {t : TypeId} {f0 f1 f2 : Field} {fuel : Nat} {cs : List Value} {x : DataW H × List MemPlace} (ht : Tryd.prog.underlying t = some (.struct #[f0, f1, f2])) (h : DataW.trod enc Tryd.prog W 0 (fun _ => true) true fuel t cs = some x) :
    ∃ y0 y1 y2 n, cs.length = Tryd.prog.cellsOf t ∧ DataW.trod enc Tryd.prog W 0 (fun _ => true) true n f0.type ((cs.drop f0.offset).take (Tryd.prog.cellsOf f0.type)) = some y0 ∧
      DataW.trod enc Tryd.prog W 0 (fun _ => true) true n f1.type ((cs.drop f1.offset).take (Tryd.prog.cellsOf f1.type)) = some y1 ∧ DataW.trod enc Tryd.prog W 0 (fun _ => true) true n f2.type ((cs.drop f2.offset).take (Tryd.prog.cellsOf f2.type)) = some y2 := by
  obtain ⟨xs, n, _, rfl, hl, hlen, hf⟩ := DataW.trod_struct ht h
  match xs, hlen with
  | [y0, y1, y2], _ => exact ⟨y0, y1, y2, n, hl, by simpa using hf 0 f0 rfl, by simpa using hf 1 f1 rfl, by simpa using hf 2 f2 rfl⟩
theorem open_str {n : Nat} {c : Value} {y : DataW H × List MemPlace} (h : DataW.trod enc Tryd.prog W 0 (fun _ => true) true n 9 [c] = some y) : ∃ s : ByteArray, c = .string s ∧ s.size ≤ maxLen := by
  obtain ⟨k, e, _, z⟩ := DataW.trod_string Tryd.underlying9 h
  exact ⟨k, (List.cons.inj e).1, z⟩
theorem open_ctx {fuel : Nat} {cs : List Value} {x : DataW H × List MemPlace} (h : DataW.trod enc Tryd.prog W 0 (fun _ => true) true fuel 25 cs = some x) :
    ∃ c : Kx, cs = c.cells.toList ∧ c.p0.size ≤ maxLen ∧ c.p1.size ≤ maxLen ∧ c.p2.size ≤ maxLen ∧ c.p3.size ≤ maxLen ∧ c.n0.size ≤ maxLen ∧ c.n1.size ≤ maxLen ∧ c.id.size ≤ maxLen := by
  obtain ⟨y0, y1, y2, n, hlen, h0, h1, h2⟩ := trod_struct3 Tryd.underlying25 h
  rw [cellsX] at hlen
  have z4 : Tryd.prog.cellsOf 22 = 4 := by kernel_rfl
  have z2 : Tryd.prog.cellsOf 23 = 2 := by kernel_rfl
  have z1 : Tryd.prog.cellsOf 9 = 1 := by kernel_rfl
  match cs, hlen with
  | [c0, c1, c2, c3, c4, c5, c6], _ =>
    have h0 : DataW.trod enc Tryd.prog W 0 (fun _ => true) true n 22 [c0, c1, c2, c3] = some y0 := by
      have := h0
      rw [z4] at this
      exact this
    have h1 : DataW.trod enc Tryd.prog W 0 (fun _ => true) true n 23 [c4, c5] = some y1 := by
      have := h1
      rw [z2] at this
      exact this
    have h2 : DataW.trod enc Tryd.prog W 0 (fun _ => true) true n 9 [c6] = some y2 := by
      have := h2
      rw [z1] at this
      exact this
    obtain ⟨xs, m, _, _, _, hxl, hi⟩ := DataW.trod_array Tryd.underlying22 h0
    obtain ⟨ys, m', _, _, _, hyl, hj⟩ := DataW.trod_array Tryd.underlying23 h1
    have a0 := hi 0 (by decide)
    have a1 := hi 1 (by decide)
    have a2 := hi 2 (by decide)
    have a3 := hi 3 (by decide)
    have b0 := hj 0 (by decide)
    have b1 := hj 1 (by decide)
    rw [z1] at a0 a1 a2 a3 b0 b1
    rw [List.getElem?_eq_getElem (by omega)] at a0 a1 a2 a3 b0 b1
    obtain ⟨s0, rfl, q0⟩ := open_str (show DataW.trod enc Tryd.prog W 0 (fun _ => true) true m 9 [c0] = some _ from a0)
    obtain ⟨s1, rfl, q1⟩ := open_str (show DataW.trod enc Tryd.prog W 0 (fun _ => true) true m 9 [c1] = some _ from a1)
    obtain ⟨s2, rfl, q2⟩ := open_str (show DataW.trod enc Tryd.prog W 0 (fun _ => true) true m 9 [c2] = some _ from a2)
    obtain ⟨s3, rfl, q3⟩ := open_str (show DataW.trod enc Tryd.prog W 0 (fun _ => true) true m 9 [c3] = some _ from a3)
    obtain ⟨s4, rfl, q4⟩ := open_str (show DataW.trod enc Tryd.prog W 0 (fun _ => true) true m' 9 [c4] = some _ from b0)
    obtain ⟨s5, rfl, q5⟩ := open_str (show DataW.trod enc Tryd.prog W 0 (fun _ => true) true m' 9 [c5] = some _ from b1)
    obtain ⟨s6, rfl, q6⟩ := open_str h2
    exact ⟨⟨s0, s1, s2, s3, s4, s5, s6⟩, rfl, q0, q1, q2, q3, q4, q5, q6⟩
/-- No text is longer than any may be. -/
def Fit (c : Kx) : Prop := c.p0.size ≤ maxLen ∧ c.p1.size ≤ maxLen ∧ c.p2.size ≤ maxLen ∧ c.p3.size ≤ maxLen ∧ c.n0.size ≤ maxLen ∧ c.n1.size ≤ maxLen ∧ c.id.size ≤ maxLen
theorem by_ctx {base : Nat} {v : Value} {d : DataW H} {p : List MemPlace} (hv : Value.okWide Tryd.prog W .any base 25 v) (h : DataW.Trod enc Tryd.prog W 0 (fun _ => true) true 25 v d p) :
    ∃ c : Kx, v = .agg c.cells ∧ Fit c := by
  obtain ⟨cs, rfl, hsz⟩ := okWide_struct Tryd.underlying25 hv
  obtain ⟨fuel, hf⟩ := h
  obtain ⟨c, hm, hok⟩ := open_ctx hf
  have : cs = c.cells := Array.ext' hm
  subst this
  exact ⟨c, rfl, hok⟩
end
end Go.Proofs.YtfegdblaohhdoaaDoor.Kb
namespace Go.Proofs.YtfegdblaohhdoaaDoor.Tc
open Go.RowKit Go.ChangeShapes Go.WideShapes Go.Joins
set_option maxRecDepth 100000

/-- What the variable has. -/
structure Tab (w : World) : Prop where
  a0 : w.cell? ⟨0, 0, none⟩ = some (.int .i64 0)
  a1 : w.cell? ⟨0, 1, none⟩ = some (.int .i64 4)
  a2 : w.cell? ⟨0, 2, none⟩ = some (.int .i64 16)
  a3 : w.cell? ⟨0, 3, none⟩ = some (.int .i64 8)
  s0 : w.cell? ⟨1, 0, none⟩ = some (.int .i64 0)
  s1 : w.cell? ⟨1, 1, none⟩ = some (.int .i64 0)
  s2 : w.cell? ⟨1, 2, none⟩ = some (.int .i64 0)
  s3 : w.cell? ⟨1, 3, none⟩ = some (.int .i64 32)
  s4 : w.cell? ⟨1, 4, none⟩ = some (.int .i64 0)
  s5 : w.cell? ⟨1, 5, none⟩ = some (.int .i64 128)
  s6 : w.cell? ⟨1, 6, none⟩ = some (.int .i64 64)
  s7 : w.cell? ⟨1, 7, none⟩ = some (.int .i64 128)
theorem ga : Tryd.prog.globalNamed "roadbook/field.addrSizes" = some 0 := by kernel_rfl
theorem ta : (Tryd.prog.globals[0]?).map (·.type) = some 103 := by kernel_rfl
theorem g0 : Tryd.prog.globalNamed "roadbook/route.spans" = some 1 := by kernel_rfl
theorem t0 : (Tryd.prog.globals[1]?).map (·.type) = some 106 := by kernel_rfl
theorem eight {α : Type} (l : List α) (h : l.length = 8) : ∃ a b c d e f g i, l = [a, b, c, d, e, f, g, i] := by
  match l, h with
  | [a, b, c, d, e, f, g, i], _ => exact ⟨a, b, c, d, e, f, g, i, rfl⟩
theorem of_laid {w : World} (h : laidMetH Tryd.prog [("roadbook/field.addrSizes", Rows.laid_roadbook_field_addrSizes), ("roadbook/route.spans", Rows.laid_roadbook_route_spans)] w) : Tab w := by
  have h : laidMet Tryd.prog [("roadbook/field.addrSizes", Rows.laid_roadbook_field_addrSizes), ("roadbook/route.spans", Rows.laid_roadbook_route_spans)] w := by
    rw [MakeChecks.laidMetH_plain _ _ _ (by kernel_rfl)] at h; exact h
  have ha : Lib.TabIs Tryd.prog w "roadbook/field.addrSizes" .i64 [0, 4, 16, 8] := Lib.tabIs_of_head ga ta Tryd.underlying103 Tryd.underlying3 (by kernel_rfl) (by kernel_rfl) (rest := _) (by exact h)
  have h := h.tail
  obtain ⟨ps, ⟨g', t', cs, f, p, q, hg', ht', hv, hd, _, _⟩, _⟩ := h
  obtain rfl := Option.some.inj (g0.symm.trans hg')
  obtain rfl := Option.some.inj (t0.symm.trans ht')
  have cS : Tryd.prog.cellsOf 105 = 2 := by kernel_rfl
  have cA : Tryd.prog.cellsOf 106 = 8 := by kernel_rfl
  have c3 : Tryd.prog.cellsOf 3 = 1 := by kernel_rfl
  obtain ⟨xs, m, _, ex, hl, hn, hel⟩ := DataW.trod_array Tryd.underlying106 hd
  rw [cA] at hl
  obtain ⟨a0, a1, a2, a3, a4, a5, a6, a7, hcs⟩ := eight _ hl
  have e0 := hel 0 (by decide)
  have e1 := hel 1 (by decide)
  have e2 := hel 2 (by decide)
  have e3 := hel 3 (by decide)
  rw [cS, hcs] at e0 e1 e2 e3
  match xs, hn, ex, e0, e1, e2, e3 with
  | [x0, x1, x2, x3], _, ex, e0, e1, e2, e3 =>
    simp only [List.drop_zero, List.take_succ_cons, List.take_zero, Nat.zero_mul, Nat.one_mul, Nat.reduceMul, List.drop_succ_cons, List.getElem?_cons_zero, List.getElem?_cons_succ] at e0 e1 e2 e3
    obtain ⟨y0, y1, n0, hx0, _, f0, f1⟩ := trod_struct2 Tryd.underlying105 e0
    obtain ⟨y2, y3, n1, hx1, _, f2, f3⟩ := trod_struct2 Tryd.underlying105 e1
    obtain ⟨y4, y5, n2, hx2, _, f4, f5⟩ := trod_struct2 Tryd.underlying105 e2
    obtain ⟨y6, y7, n3, hx3, _, f6, f7⟩ := trod_struct2 Tryd.underlying105 e3
    simp only [c3, List.drop_zero, List.take_succ_cons, List.take_zero, List.drop_succ_cons] at f0 f1 f2 f3 f4 f5 f6 f7
    obtain ⟨b0, q0, k0, _⟩ := DataW.trod_int Tryd.underlying3 f0
    obtain ⟨b1, q1, k1, _⟩ := DataW.trod_int Tryd.underlying3 f1
    obtain ⟨b2, q2, k2, _⟩ := DataW.trod_int Tryd.underlying3 f2
    obtain ⟨b3, q3, k3, _⟩ := DataW.trod_int Tryd.underlying3 f3
    obtain ⟨b4, q4, k4, _⟩ := DataW.trod_int Tryd.underlying3 f4
    obtain ⟨b5, q5, k5, _⟩ := DataW.trod_int Tryd.underlying3 f5
    obtain ⟨b6, q6, k6, _⟩ := DataW.trod_int Tryd.underlying3 f6
    obtain ⟨b7, q7, k7, _⟩ := DataW.trod_int Tryd.underlying3 f7
    subst k0 k1 k2 k3 k4 k5 k6 k7
    subst hx0 hx1 hx2 hx3
    simp [Rows.laid_roadbook_route_spans] at ex
    obtain ⟨⟨⟨r0, r1⟩, ⟨r2, r3⟩, ⟨r4, r5⟩, r6, r7⟩, _⟩ := ex
    simp only [List.cons.injEq, and_true] at q0 q1 q2 q3 q4 q5 q6 q7
    have hc : ∀ i, w.cell? ⟨1, i, none⟩ = cs.toList[i]? := fun i => by have := World.var?_cell g0 hv i; simpa using this
    rw [hcs] at hc
    subst q0 q1 q2 q3 q4 q5 q6 q7
    subst r0 r1 r2 r3 r4 r5 r6 r7
    exact ⟨ha.cell ga 0 (by decide), ha.cell ga 1 (by decide), ha.cell ga 2 (by decide), ha.cell ga 3 (by decide), hc 0, hc 1, hc 2, hc 3, hc 4, hc 5, hc 6, hc 7⟩
theorem Tab.pos {w : World} (h : Tab w) : 1 < w.heap.size := by
  have h0 := World.block_lt_of_cell? _ _ h.a0
  have h0 : 0 < w.heap.size := h0
  have h1 := World.block_lt_of_cell? _ _ h.s0
  have h1 : 1 < w.heap.size := h1
  omega
/-- .. and behind whatever leaves the first two blocks as they were. -/
theorem Tab.under {B : Nat} {w w' : World} (h : Tab w) (hb : Below B w w') (hB : 1 < B) : Tab w' := by
  have c : ∀ b i, b ≤ 1 → w'.cell? ⟨b, i, none⟩ = w.cell? ⟨b, i, none⟩ := fun b i hi => hb.cell (p := ⟨b, i, none⟩) (by show b < B; omega)
  exact ⟨(c _ _ (by decide)).trans h.a0, (c _ _ (by decide)).trans h.a1, (c _ _ (by decide)).trans h.a2, (c _ _ (by decide)).trans h.a3, (c _ _ (by decide)).trans h.s0, (c _ _ (by decide)).trans h.s1, (c _ _ (by decide)).trans h.s2, (c _ _ (by decide)).trans h.s3, (c _ _ (by decide)).trans h.s4, (c _ _ (by decide)).trans h.s5, (c _ _ (by decide)).trans h.s6, (c _ _ (by decide)).trans h.s7⟩
theorem Tab.below {w w' : World} (h : Tab w) (hb : Below w.heap.size w w') : Tab w' := h.under hb h.pos
end Go.Proofs.YtfegdblaohhdoaaDoor.Tc
namespace Go.Proofs.YtfegdblaohhdoaaDoor.F2
open Go.ChangeShapes Go.WideShapes Go.ChangeAt Go.RowKit
open Go.Proofs.YtfegdblaohhdoaaDoor.F1
open Go.Proofs.YtfegdblaohhdoaaDoor.Nu
open Go.Proofs.YtfegdblaohhdoaaDoor.Cur (numL)
open Go.Proofs.YtfegdblaohhdoaaDoor.Bk (Bk Sh loadVarK wpList_builtK wpList_loadK wpList_storeK run_loadK alloc_size)
open Go.Proofs.YtfegdblaohhdoaaDoor.Hs
open Go.Proofs.YtfegdblaohhdoaaDoor.Hx (conv8 ex_built)
set_option linter.unusedVariables false
set_option maxRecDepth 100000
set_option maxRecDepth 100000

theorem bcall {w W w1 : World} (h : Below w.heap.size w W) (hb : Below W.heap.size W w1) : Below w.heap.size w w1 := h.trans (hb.mono h.size)
theorem balloc {w W : World} (h : Below w.heap.size w W) (o : Obj) : Below w.heap.size w (W.alloc o) := h.alloc h.size o
theorem idx (b : ByteArray) (k : Nat) (i : Int) (hi : i = k) (h : k < b.size) (W : World) : (Instr.index 9 (.string b) (.int .i64 i)).run Tryd.prog W = .ok (.int .u8 (bt b k)) W := by
  subst hi
  rw [run_index_string W 9 b .i64 (k : Int) Tryd.underlying9, dif_pos ⟨by omega, by omega⟩, ← bt_eq b k h]
  rfl
theorem sl_m (s : ByteArray) (i j : Int) (lo hi : Nat) (hi' : i = lo) (hj : j = hi) (h1 : lo ≤ hi) (h2 : hi ≤ s.size) (W : World) :
    (Instr.slice 9 (.string s) (some (.int .i64 i)) (some (.int .i64 j)) none).run Tryd.prog W = .ok (.string (s.extract lo hi)) W := by
  subst hi' hj
  have := run_slice_string (P := Tryd.prog) W 9 s .i64 .i64 (lo : Int) (hi : Int) Tryd.underlying9 (by omega) (by omega) (by omega)
  simpa using this
theorem sl_l (s : ByteArray) (i : Int) (lo hi : Nat) (hi' : i = lo) (h1 : lo ≤ s.size) (hs : s.size = hi) (W : World) :
    (Instr.slice 9 (.string s) (some (.int .i64 i)) none none).run Tryd.prog W = .ok (.string (s.extract lo hi)) W := by
  subst hi' hs
  have := run_slice_string_l (P := Tryd.prog) (t := 9) (s := s) W Tryd.underlying9 .i64 (lo : Int) (by omega) (by omega)
  simpa using this
end Go.Proofs.YtfegdblaohhdoaaDoor.F2
namespace Go.Proofs.YtfegdblaohhdoaaDoor.J2
open Go.ChangeShapes Go.WideShapes Go.ChangeAt Go.RowKit
open Go.Proofs.YtfegdblaohhdoaaDoor.Ms
open Go.Proofs.YtfegdblaohhdoaaDoor.Box
open Go.Proofs.YtfegdblaohhdoaaDoor.S1
open Go.Proofs.YtfegdblaohhdoaaDoor.Lk
open Go.Proofs.YtfegdblaohhdoaaDoor.Nu (text_eq)
open Go.Proofs.YtfegdblaohhdoaaDoor.J1
open Go.Proofs.YtfegdblaohhdoaaDoor.An
open Go.Proofs.YtfegdblaohhdoaaDoor.Tc
open Go.Proofs.YtfegdblaohhdoaaDoor.Oct (fitsB)
open Go.Proofs.YtfegdblaohhdoaaDoor.Bits (keepL keepL_length)
open Go.Proofs.YtfegdblaohhdoaaDoor.Pre (leastN cutL fillL rightZ)
open Go.Proofs.YtfegdblaohhdoaaDoor.Hs
open Go.Proofs.YtfegdblaohhdoaaDoor.Or (st_yes)
set_option linter.unusedVariables false
set_option maxRecDepth 100000
set_option maxRecDepth 100000
theorem bool_eq {a b : Bool} (h : a = b) : Ending.returned (.bool a) = .returned (.bool b) := by rw [h]
theorem int_eq {a b : Int} (h : a = b) : Ending.returned (.int .i64 a) = .returned (.int .i64 b) := by rw [h]
theorem pair_eq {s t : ByteArray} {b c : Bool} (h : s = t) (k : b = c) : Ending.returned (.tuple #[.string s, .bool b]) = .returned (.tuple #[.string t, .bool c]) := by rw [h, k]
theorem len_is (ae p : Int) : lenB ae p = (decide (0 ≤ ae) && (decide (ae ≤ 3) && (decide (minA ae ≤ p) && decide (p ≤ maxA ae)))) := rfl
theorem size_eq (a : ByteArray) (k : Nat) : ((a.size : Int) == (k : Int)) = decide (a.size = k) := by rw [Bool.eq_iff_iff]; simp; omega
theorem nil_eq (a : ByteArray) : (a.toList == ([] : List UInt8)) = decide (a.size = 0) := by
  rw [Bool.eq_iff_iff, beq_iff_eq, decide_eq_true_eq, ByteArray.toList_eq, ← size_list, List.length_eq_zero_iff]
theorem nil_em (a : ByteArray) : a.toList.isEmpty = decide (a.size = 0) := by rw [← nil_eq]; cases a.toList <;> rfl
theorem ae_any (n : Int) (w : World) : Calls Tryd.prog 68 #[.int .i64 n] w fun e w' => e = .returned (.bool (decide (0 ≤ n ∧ n ≤ 3))) ∧ w = w' := by
  by_cases h0 : 0 ≤ n
  rotate_left
  · rw [decide_eq_false (fun h => h0 h.1)]
    go_enter Tryd.func68, Tryd.ntmps68
    go_wp2
    go_ret
    exact ⟨rfl, rfl⟩
  by_cases h1 : n ≤ 3
  rotate_left
  · rw [decide_eq_false (fun h => h1 h.2)]
    go_enter Tryd.func68, Tryd.ntmps68
    go_wp2
    go_ret
    exact ⟨bool_eq (decide_eq_false (by omega)), rfl⟩
  rw [decide_eq_true ⟨h0, h1⟩]
  go_enter Tryd.func68, Tryd.ntmps68
  go_wp2
  go_ret
  exact ⟨bool_eq (decide_eq_true (by omega)), rfl⟩
set_option maxHeartbeats 1600000 in
theorem length_any (ae p : Int) (w : World) (ht : Tab w) : Calls Tryd.prog 44 #[.int .i64 ae, .int .i64 p] w fun e w' => e = .returned (.bool (lenB ae p)) ∧ w = w' := by
  have PA := Lib.hid (fun V => ae_any ae V)
  by_cases hi : 0 ≤ ae ∧ ae ≤ 3
  rotate_left
  · have HK := Lib.hid (show lenB ae p = false from by
      cases h : lenB ae p
      · rfl
      · exact absurd ⟨(len_range h).1, (len_range h).2.1⟩ hi)
    rw [decide_eq_false hi] at PA
    clear ht hi
    go_enter Tryd.func44, Tryd.ntmps44
    go_wp2_with fail
    refine (PA.out _).mono ?_
    rintro e w' ⟨rfl, rfl⟩
    go_wp2
    go_ret
    exact ⟨bool_eq HK.out.symm, rfl⟩
  rw [decide_eq_true hi] at PA
  obtain ⟨s0, s1, s2, s3, s4, s5, s6, s7⟩ := ht
  rcases (show ae = 0 ∨ ae = 1 ∨ ae = 2 ∨ ae = 3 by omega) with rfl | rfl | rfl | rfl
  · by_cases h0 : 0 ≤ p
    rotate_left
    · have HK := Lib.hid (show lenB 0 p = false from by rw [len_is, decide_eq_false (show ¬ minA 0 ≤ p from h0)]; rfl)
      clear hi
      go_enter Tryd.func44, Tryd.ntmps44
      go_wp2_with fail
      refine (PA.out _).mono ?_
      rintro e w' ⟨rfl, rfl⟩
      go_wp2
      go_ret
      exact ⟨bool_eq HK.out.symm, rfl⟩
    by_cases h1 : p ≤ 0
    rotate_left
    · have HK := Lib.hid (show lenB 0 p = false from by rw [len_is, decide_eq_false (show ¬ p ≤ maxA 0 from h1), Bool.and_false, Bool.and_false, Bool.and_false])
      have hq : decide (p ≤ 0) = false := decide_eq_false h1
      clear hi
      go_enter Tryd.func44, Tryd.ntmps44
      go_wp2_with fail
      refine (PA.out _).mono ?_
      rintro e w' ⟨rfl, rfl⟩
      go_wp2
      go_ret
      exact ⟨bool_eq HK.out.symm, rfl⟩
    have HK := Lib.hid (show lenB 0 p = true from by rw [len_is, decide_eq_true (show minA 0 ≤ p from h0), decide_eq_true (show p ≤ maxA 0 from h1)]; rfl)
    have hq : decide (p ≤ 0) = true := decide_eq_true h1
    clear hi
    go_enter Tryd.func44, Tryd.ntmps44
    go_wp2_with fail
    refine (PA.out _).mono ?_
    rintro e w' ⟨rfl, rfl⟩
    go_wp2
    go_ret
    exact ⟨bool_eq HK.out.symm, rfl⟩
  · by_cases h0 : 0 ≤ p
    rotate_left
    · have HK := Lib.hid (show lenB 1 p = false from by rw [len_is, decide_eq_false (show ¬ minA 1 ≤ p from h0)]; rfl)
      clear hi
      go_enter Tryd.func44, Tryd.ntmps44
      go_wp2_with fail
      refine (PA.out _).mono ?_
      rintro e w' ⟨rfl, rfl⟩
      go_wp2
      go_ret
      exact ⟨bool_eq HK.out.symm, rfl⟩
    by_cases h1 : p ≤ 32
    rotate_left
    · have HK := Lib.hid (show lenB 1 p = false from by rw [len_is, decide_eq_false (show ¬ p ≤ maxA 1 from h1), Bool.and_false, Bool.and_false, Bool.and_false])
      have hq : decide (p ≤ 32) = false := decide_eq_false h1
      clear hi
      go_enter Tryd.func44, Tryd.ntmps44
      go_wp2_with fail
      refine (PA.out _).mono ?_
      rintro e w' ⟨rfl, rfl⟩
      go_wp2
      go_ret
      exact ⟨bool_eq HK.out.symm, rfl⟩
    have HK := Lib.hid (show lenB 1 p = true from by rw [len_is, decide_eq_true (show minA 1 ≤ p from h0), decide_eq_true (show p ≤ maxA 1 from h1)]; rfl)
    have hq : decide (p ≤ 32) = true := decide_eq_true h1
    clear hi
    go_enter Tryd.func44, Tryd.ntmps44
    go_wp2_with fail
    refine (PA.out _).mono ?_
    rintro e w' ⟨rfl, rfl⟩
    go_wp2
    go_ret
    exact ⟨bool_eq HK.out.symm, rfl⟩
  · by_cases h0 : 0 ≤ p
    rotate_left
    · have HK := Lib.hid (show lenB 2 p = false from by rw [len_is, decide_eq_false (show ¬ minA 2 ≤ p from h0)]; rfl)
      clear hi
      go_enter Tryd.func44, Tryd.ntmps44
      go_wp2_with fail
      refine (PA.out _).mono ?_
      rintro e w' ⟨rfl, rfl⟩
      go_wp2
      go_ret
      exact ⟨bool_eq HK.out.symm, rfl⟩
    by_cases h1 : p ≤ 128
    rotate_left
    · have HK := Lib.hid (show lenB 2 p = false from by rw [len_is, decide_eq_false (show ¬ p ≤ maxA 2 from h1), Bool.and_false, Bool.and_false, Bool.and_false])
      have hq : decide (p ≤ 128) = false := decide_eq_false h1
      clear hi
      go_enter Tryd.func44, Tryd.ntmps44
      go_wp2_with fail
      refine (PA.out _).mono ?_
      rintro e w' ⟨rfl, rfl⟩
      go_wp2
      go_ret
      exact ⟨bool_eq HK.out.symm, rfl⟩
    have HK := Lib.hid (show lenB 2 p = true from by rw [len_is, decide_eq_true (show minA 2 ≤ p from h0), decide_eq_true (show p ≤ maxA 2 from h1)]; rfl)
    have hq : decide (p ≤ 128) = true := decide_eq_true h1
    clear hi
    go_enter Tryd.func44, Tryd.ntmps44
    go_wp2_with fail
    refine (PA.out _).mono ?_
    rintro e w' ⟨rfl, rfl⟩
    go_wp2
    go_ret
    exact ⟨bool_eq HK.out.symm, rfl⟩
  · by_cases h0 : 64 ≤ p
    rotate_left
    · have HK := Lib.hid (show lenB 3 p = false from by rw [len_is, decide_eq_false (show ¬ minA 3 ≤ p from h0)]; rfl)
      clear hi
      go_enter Tryd.func44, Tryd.ntmps44
      go_wp2_with fail
      refine (PA.out _).mono ?_
      rintro e w' ⟨rfl, rfl⟩
      go_wp2
      go_ret
      exact ⟨bool_eq HK.out.symm, rfl⟩
    by_cases h1 : p ≤ 128
    rotate_left
    · have HK := Lib.hid (show lenB 3 p = false from by rw [len_is, decide_eq_false (show ¬ p ≤ maxA 3 from h1), Bool.and_false, Bool.and_false, Bool.and_false])
      have hq : decide (p ≤ 128) = false := decide_eq_false h1
      clear hi
      go_enter Tryd.func44, Tryd.ntmps44
      go_wp2_with fail
      refine (PA.out _).mono ?_
      rintro e w' ⟨rfl, rfl⟩
      go_wp2
      go_ret
      exact ⟨bool_eq HK.out.symm, rfl⟩
    have HK := Lib.hid (show lenB 3 p = true from by rw [len_is, decide_eq_true (show minA 3 ≤ p from h0), decide_eq_true (show p ≤ maxA 3 from h1)]; rfl)
    have hq : decide (p ≤ 128) = true := decide_eq_true h1
    clear hi
    go_enter Tryd.func44, Tryd.ntmps44
    go_wp2_with fail
    refine (PA.out _).mono ?_
    rintro e w' ⟨rfl, rfl⟩
    go_wp2
    go_ret
    exact ⟨bool_eq HK.out.symm, rfl⟩
def famN (a : ByteArray) : Int := if a.size = 4 then 0 else if a.size = 16 then 1 else -1
theorem family_any (s : ByteArray) (w : World) : Calls Tryd.prog 46 #[.string s] w fun e w' => e = .returned (.int .i64 (famN s)) ∧ w = w' := by
  by_cases h4 : s.size = 4
  · have HK := Lib.hid (show famN s = 0 by unfold famN; rw [if_pos h4])
    have e0 : ((s.size : Int) == 4) = true := by rw [beq_iff_eq]; omega
    clear h4
    go_enter Tryd.func46, Tryd.ntmps46
    go_wp2
    go_ret
    exact ⟨int_eq HK.out.symm, rfl⟩
  have e0 : ((s.size : Int) == 4) = false := by rw [beq_eq_false_iff_ne]; omega
  by_cases h6 : s.size = 16
  · have HK := Lib.hid (show famN s = 1 by unfold famN; rw [if_neg h4, if_pos h6])
    have e1 : ((s.size : Int) == 16) = true := by rw [beq_iff_eq]; omega
    clear h4 h6
    go_enter Tryd.func46, Tryd.ntmps46
    go_wp2
    go_ret
    exact ⟨int_eq HK.out.symm, rfl⟩
  have e1 : ((s.size : Int) == 16) = false := by rw [beq_eq_false_iff_ne]; omega
  have HK := Lib.hid (show famN s = -1 by unfold famN; rw [if_neg h4, if_neg h6])
  clear h4 h6
  go_enter Tryd.func46, Tryd.ntmps46
  go_wp2
  go_ret
  exact ⟨int_eq HK.out.symm, rfl⟩
theorem fam_0 (a : ByteArray) : (famN a == 0) = decide (a.size = 4) := by
  unfold famN
  by_cases h4 : a.size = 4
  · rw [if_pos h4, decide_eq_true h4]; rfl
  · rw [if_neg h4, decide_eq_false h4]
    split <;> rfl
theorem fam_1 (a : ByteArray) : (famN a == 1) = decide (a.size = 16) := by
  unfold famN
  by_cases h4 : a.size = 4
  · rw [if_pos h4, decide_eq_false (by omega)]; rfl
  · rw [if_neg h4]
    by_cases h6 : a.size = 16
    · rw [if_pos h6, decide_eq_true h6]; rfl
    · rw [if_neg h6, decide_eq_false h6]; rfl
theorem address_any (ae : Int) (a : ByteArray) (w : World) : Calls Tryd.prog 43 #[.int .i64 ae, .string a] w fun e w' => e = .returned (.bool (adrB ae a)) ∧ w = w' := by
  by_cases h0 : ae = 0
  · subst h0
    have HK := Lib.hid (show adrB 0 a = decide (a.size = 0) from rfl)
    have he := nil_eq a
    have he2 := nil_em a
    generalize decide (a.size = 0) = z at *
    generalize adrB 0 a = y at *
    go_enter Tryd.func43, Tryd.ntmps43
    go_wp2
    go_ret
    exact ⟨bool_eq HK.out.symm, rfl⟩
  by_cases h1 : ae = 1
  · subst h1
    have HK := Lib.hid (show adrB 1 a = decide (a.size = 4) from rfl)
    have PF := Lib.hid (fun V => family_any a V)
    have he := fam_0 a
    generalize decide (a.size = 4) = z at *
    generalize adrB 1 a = y at *
    generalize famN a = f at *
    go_enter Tryd.func43, Tryd.ntmps43
    go_wp2_with fail
    refine (PF.out _).mono ?_
    rintro e w' ⟨rfl, rfl⟩
    go_wp2
    go_ret
    exact ⟨bool_eq HK.out.symm, rfl⟩
  by_cases h2 : ae = 2
  · subst h2
    have HK := Lib.hid (show adrB 2 a = decide (a.size = 16) from rfl)
    have PF := Lib.hid (fun V => family_any a V)
    have he := fam_1 a
    generalize decide (a.size = 16) = z at *
    generalize adrB 2 a = y at *
    generalize famN a = f at *
    go_enter Tryd.func43, Tryd.ntmps43
    go_wp2_with fail
    refine (PF.out _).mono ?_
    rintro e w' ⟨rfl, rfl⟩
    go_wp2
    go_ret
    exact ⟨bool_eq HK.out.symm, rfl⟩
  by_cases h3 : ae = 3
  · subst h3
    have HK := Lib.hid (show adrB 3 a = link a from rfl)
    have PF := Lib.hid (fun V => link_any a V)
    generalize link a = z at *
    generalize adrB 3 a = y at *
    go_enter Tryd.func43, Tryd.ntmps43
    go_wp2_with fail
    refine (PF.out _).mono ?_
    rintro e w' ⟨rfl, rfl⟩
    go_wp2
    go_ret
    exact ⟨bool_eq HK.out.symm, rfl⟩
  have HK := Lib.hid (show adrB ae a = false by unfold adrB; rw [if_neg h0, if_neg h1, if_neg h2, if_neg h3])
  have e0 : (ae == 0) = false := by simpa using h0
  have e1 : (ae == 1) = false := by simpa using h1
  have e2 : (ae == 2) = false := by simpa using h2
  have e3 : (ae == 3) = false := by simpa using h3
  go_enter Tryd.func43, Tryd.ntmps43
  go_wp2
  go_ret
  exact ⟨bool_eq HK.out.symm, rfl⟩
set_option maxHeartbeats 1600000 in
theorem in_any (ae : Int) (a : ByteArray) (p : Int) (w : World) (ha : a.size ≤ maxLen) (ht : Tab w) : Calls Tryd.prog 27 #[.int .i64 ae, .string a, .int .i64 p] w fun e w' => e = .returned (.bool (inB ae a p)) ∧ Below w.heap.size w w' := by
  have P1 := Lib.hid (fun V => address_any ae a V)
  have P2 := Lib.hid (length_any ae p w ht)
  have P3 := Lib.hid (fun V => Pre.right_any a p V ha)
  have HK := Lib.hid (show inB ae a p = (adrB ae a && (lenB ae p && (decide (ae = 0) || rightZ a p))) from rfl)
  clear ht ha
  generalize inB ae a p = y at *
  generalize adrB ae a = x1 at *
  generalize lenB ae p = x2 at *
  generalize rightZ a p = x3 at *
  cases x1
  · go_enter Tryd.func27, Tryd.ntmps27
    go_wp2_with fail
    refine (P1.out _).mono ?_
    rintro r w' ⟨rfl, rfl⟩
    go_wp2
    go_ret
    exact ⟨bool_eq HK.out.symm, Below.refl _ _⟩
  cases x2
  · go_enter Tryd.func27, Tryd.ntmps27
    go_wp2_with fail
    refine (P1.out _).mono ?_
    rintro r w' ⟨rfl, rfl⟩
    go_wp2_with fail
    refine (P2.out).mono ?_
    rintro r w' ⟨rfl, rfl⟩
    go_wp2
    go_ret
    exact ⟨bool_eq HK.out.symm, Below.refl _ _⟩
  by_cases h0 : ae = 0
  · subst h0
    go_enter Tryd.func27, Tryd.ntmps27
    go_wp2_with fail
    refine (P1.out _).mono ?_
    rintro r w' ⟨rfl, rfl⟩
    go_wp2_with fail
    refine (P2.out).mono ?_
    rintro r w' ⟨rfl, rfl⟩
    go_wp2
    go_ret
    exact ⟨bool_eq HK.out.symm, Below.refl _ _⟩
  have e0 : (ae == 0) = false := by simpa using h0
  rw [decide_eq_false h0] at HK
  clear h0
  go_enter Tryd.func27, Tryd.ntmps27
  go_wp2_with fail
  refine (P1.out _).mono ?_
  rintro r w' ⟨rfl, rfl⟩
  go_wp2_with fail
  refine (P2.out).mono ?_
  rintro r w' ⟨rfl, rfl⟩
  go_wp2_with fail
  refine (P3.out _).mono ?_
  rintro r w' ⟨rfl, hb⟩
  go_wp2
  go_ret
  exact ⟨bool_eq HK.out.symm, hb⟩
theorem count_any (ae p : Int) (w : World) (h : lenB ae p = true) : Calls Tryd.prog 77 #[.int .i64 ae, .int .i64 p] w fun e w' => e = .returned (.int .i64 (countN ae p : Nat)) ∧ w = w' := by
  have hr := len_range h
  have hc := count_le h
  have P1 := Lib.hid (fun V => Pre.least_any p V (by omega))
  by_cases h3 : ae = 3
  · subst h3
    have HK0 : ((countN 3 p : Nat) : Int) = (leastN p : Int) - 8 := by have : baseN 3 = 8 := rfl; omega
    have hw : wrap64 ((leastN p : Int) - 8) = (leastN p : Int) - 8 := IntWalk.wrap64_in _ ⟨by omega, by have := hc.1; have : baseN 3 = 8 := rfl; omega⟩
    have HK := Lib.hid (hw.trans HK0.symm)
    clear hw HK0
    generalize countN 3 p = c at *
    generalize leastN p = n at *
    clear hr hc h
    go_enter Tryd.func77, Tryd.ntmps77
    go_wp2_with fail
    refine (P1.out _).mono ?_
    rintro r w' ⟨rfl, rfl⟩
    go_wp2
    go_ret
    exact ⟨int_eq HK.out, rfl⟩
  have HK := Lib.hid (show ((countN ae p : Nat) : Int) = (leastN p : Int) from by
    have : baseN ae = 0 := by unfold baseN; rw [if_neg h3]
    omega)
  have e3 : (ae == 3) = false := by simpa using h3
  generalize countN ae p = c at *
  generalize leastN p = n at *
  clear hr hc h
  go_enter Tryd.func77, Tryd.ntmps77
  go_wp2_with fail
  refine (P1.out _).mono ?_
  rintro r w' ⟨rfl, rfl⟩
  go_wp2
  go_ret
  exact ⟨int_eq HK.out.symm, rfl⟩
theorem adr_size {ae : Int} {a : ByteArray} {p : Int} (h : inB ae a p = true) : a.size ≤ 16 := by
  rcases (in_cases h).2 with ⟨_, h0⟩ | ⟨⟨_, h0⟩ | ⟨_, h0⟩ | ⟨_, h0⟩, _⟩
  · omega
  · omega
  · omega
  · have := link_size h0; omega
theorem cutL_len {ae : Int} {a : ByteArray} {p : Int} (h : inB ae a p = true) : (cutL a.data.toList p).length = leastN p := by
  have h1 := cut_size h
  have h2 := (count_le (in_cases h).1).2
  unfold cutP at h1
  rw [mk_size, List.length_drop] at h1
  rcases (in_cases h).2 with ⟨rfl, h0⟩ | ⟨hc, h8, _⟩
  · have : baseN 0 = 0 := rfl
    omega
  · unfold cutL
    have := (len_range (in_cases h).1).2.2.1
    rw [List.length_take, keepL_length, size_list, Nat.min_eq_left (by unfold leastN; omega)]
set_option maxHeartbeats 1600000 in
theorem cut_any (ae : Int) (a : ByteArray) (p : Int) (w : World) (h : inB ae a p = true) : Calls Tryd.prog 60 #[.int .i64 ae, .string a, .int .i64 p] w fun e w' => e = .returned (.string (cutP ae a p)) ∧ Below w.heap.size w w' := by
  have hl := (in_cases h).1
  have hr := len_range hl
  have hc := count_le hl
  have hz := cutL_len h
  have ha := adr_size h
  have P1 := Lib.hid (fun V => Pre.cut_any a p V (by omega) (by omega))
  have P2 := Lib.hid (fun V => count_any ae p V hl)
  have hs : (ByteArray.mk (cutL a.data.toList p).toArray).size = leastN p := by rw [mk_size, hz]
  have HK := Lib.hid (show (ByteArray.mk (cutL a.data.toList p).toArray).extract (baseN ae) (leastN p) = cutP ae a p from text_eq (by
    rw [Nu.ext_list]
    show ((cutL a.data.toList p).drop (baseN ae)).take (leastN p - baseN ae) = (cutL a.data.toList p).drop (baseN ae)
    exact List.take_of_length_le (by rw [List.length_drop, hz]; exact Nat.le_refl _)))
  generalize ByteArray.mk (cutL a.data.toList p).toArray = x at *
  generalize cutP ae a p = y at *
  have hsl : ∀ wx, Sem.run Tryd.prog (Instr.slice 9 (Value.string x) (some (Value.int IntKind.i64 ((x.size : Int) - (countN ae p : Int)))) none none) wx = .ok (.string y) wx := fun wx => by
    have := F2.sl_l x ((x.size : Int) - (countN ae p : Int)) (baseN ae) (leastN p) (by omega) (by omega) hs wx
    rw [HK.out] at this
    exact this
  have hln : leastN p ≤ 16 := by unfold leastN; omega
  have hw : wrap64 ((x.size : Int) - (countN ae p : Int)) = (x.size : Int) - (countN ae p : Int) := IntWalk.wrap64_in _ ⟨by omega, by omega⟩
  clear hln
  generalize countN ae p = c at *
  clear hl hr hc hz ha hs h HK
  go_enter Tryd.func60, Tryd.ntmps60
  go_wp2_with fail
  refine (P1.out _).mono ?_
  rintro r w' ⟨rfl, hb⟩
  go_wp2_with fail
  refine (P2.out _).mono ?_
  rintro r w' ⟨rfl, rfl⟩
  go_wp2
  go_ret
  exact ⟨rfl, hb⟩
theorem seq_is (m : M) : seqB m = (!decide (m.ae = 0) && (fitsB m.seq 2 && (decide (m.id.size = 8) && (decide (1 ≤ m.hops) && fitsB m.hops 1)))) := rfl
set_option maxHeartbeats 3200000 in
theorem kind_any (m : M) (w : World) : Calls Tryd.prog 30 #[.agg m.cells] w fun e w' => e = .returned (.bool (kindB m)) ∧ Below w.heap.size w w' := by
  have HB := Lib.hid (balloc (Below.refl _ w) (.cells m.cells 29))
  have b0 := Bx.new w m
  by_cases h12 : m.kind = 12
  · have HK := Lib.hid (show kindB m = true by unfold kindB; rw [if_pos h12])
    go_enter Tryd.func30, Tryd.ntmps30
    go_upto_region 1 with fail
    generalize w.alloc (.cells m.cells 29) = V at *
    have c0 := b0.cs.c0
    have c5 := b0.cs.c5
    have c11 := b0.cs.c11
    have c12 := b0.cs.c12
    have c16 := b0.cs.c16
    clear b0
    rw [h12] at c0
    go_wp2
    go_ret
    exact ⟨bool_eq HK.out.symm, HB.out⟩
  by_cases h13 : m.kind = 13
  rotate_left
  · have HK := Lib.hid (show kindB m = false by unfold kindB; rw [if_neg h12, if_neg h13])
    have e12 : (m.kind == 12) = false := by simpa using h12
    have e13 : (m.kind == 13) = false := by simpa using h13
    go_enter Tryd.func30, Tryd.ntmps30
    go_upto_region 1 with fail
    generalize w.alloc (.cells m.cells 29) = V at *
    have c0 := b0.cs.c0
    have c5 := b0.cs.c5
    have c11 := b0.cs.c11
    have c12 := b0.cs.c12
    have c16 := b0.cs.c16
    clear b0
    go_wp2
    go_ret
    exact ⟨bool_eq HK.out.symm, HB.out⟩
  have HK := Lib.hid (show kindB m = (!decide (m.ae = 0) && (fitsB m.seq 2 && (decide (m.id.size = 8) && (decide (1 ≤ m.hops) && fitsB m.hops 1)))) by unfold kindB; rw [if_neg h12, if_pos h13, seq_is])
  have P1 := Lib.hid (fun V => Oct.fits_any m.seq 2 V)
  have P2 := Lib.hid (fun V => Oct.fits_any m.hops 1 V)
  generalize kindB m = y at *
  generalize fitsB m.seq 2 = x1 at *
  generalize fitsB m.hops 1 = x2 at *
  by_cases h0 : m.ae = 0
  · rw [decide_eq_true h0] at HK
    go_enter Tryd.func30, Tryd.ntmps30
    go_upto_region 1 with fail
    generalize w.alloc (.cells m.cells 29) = V at *
    have c0 := b0.cs.c0
    have c5 := b0.cs.c5
    have c11 := b0.cs.c11
    have c12 := b0.cs.c12
    have c16 := b0.cs.c16
    clear b0
    rw [h13] at c0
    rw [h0] at c5
    clear h0 h12 h13
    go_wp2
    go_ret
    exact ⟨bool_eq HK.out.symm, HB.out⟩
  have e0 : (m.ae == 0) = false := by simpa using h0
  have e1 : (m.ae != 0) = true := by rw [bne, e0]; rfl
  rw [decide_eq_false h0] at HK
  cases x1
  · go_enter Tryd.func30, Tryd.ntmps30
    go_upto_region 1 with fail
    generalize w.alloc (.cells m.cells 29) = V at *
    have c0 := b0.cs.c0
    have c5 := b0.cs.c5
    have c11 := b0.cs.c11
    have c12 := b0.cs.c12
    have c16 := b0.cs.c16
    clear b0
    rw [h13] at c0
    clear h0 h12 h13
    go_wp2_with fail
    refine (P1.out _).mono ?_
    rintro r w' ⟨rfl, rfl⟩
    go_wp2
    go_ret
    exact ⟨bool_eq HK.out.symm, HB.out⟩
  have e2 : ((m.id.size : Int) == 8) = decide (m.id.size = 8) := size_eq m.id 8
  by_cases h8 : m.id.size = 8
  rotate_left
  · rw [decide_eq_false h8] at HK e2
    clear h8
    go_enter Tryd.func30, Tryd.ntmps30
    go_upto_region 1 with fail
    generalize w.alloc (.cells m.cells 29) = V at *
    have c0 := b0.cs.c0
    have c5 := b0.cs.c5
    have c11 := b0.cs.c11
    have c12 := b0.cs.c12
    have c16 := b0.cs.c16
    clear b0
    rw [h13] at c0
    clear h0 h12 h13
    go_wp2_with fail
    refine (P1.out _).mono ?_
    rintro r w' ⟨rfl, rfl⟩
    go_wp2
    go_ret
    exact ⟨bool_eq HK.out.symm, HB.out⟩
  rw [decide_eq_true h8] at HK e2
  clear h8
  by_cases h1 : 1 ≤ m.hops
  rotate_left
  · rw [decide_eq_false h1] at HK
    go_enter Tryd.func30, Tryd.ntmps30
    go_upto_region 1 with fail
    generalize w.alloc (.cells m.cells 29) = V at *
    have c0 := b0.cs.c0
    have c5 := b0.cs.c5
    have c11 := b0.cs.c11
    have c12 := b0.cs.c12
    have c16 := b0.cs.c16
    clear b0
    rw [h13] at c0
    clear h0 h12 h13
    go_wp2_with fail
    refine (P1.out _).mono ?_
    rintro r w' ⟨rfl, rfl⟩
    go_wp2
    go_ret
    exact ⟨bool_eq HK.out.symm, HB.out⟩
  rw [decide_eq_true h1] at HK
  go_enter Tryd.func30, Tryd.ntmps30
  go_upto_region 1 with fail
  generalize w.alloc (.cells m.cells 29) = V at *
  have c0 := b0.cs.c0
  have c5 := b0.cs.c5
  have c11 := b0.cs.c11
  have c12 := b0.cs.c12
  have c16 := b0.cs.c16
  clear b0
  rw [h13] at c0
  clear h0 h12 h13
  go_wp2_with fail
  refine (P1.out _).mono ?_
  rintro r w' ⟨rfl, rfl⟩
  go_wp2_with fail
  refine (P2.out _).mono ?_
  rintro r w' ⟨rfl, rfl⟩
  go_wp2
  go_ret
  exact ⟨bool_eq HK.out.symm, HB.out⟩
end Go.Proofs.YtfegdblaohhdoaaDoor.J2
namespace Go.Proofs.YtfegdblaohhdoaaDoor.G1
open Go.ChangeShapes Go.WideShapes Go.ChangeAt Go.RowKit
open Go.Proofs.YtfegdblaohhdoaaDoor.Ms
open Go.Proofs.YtfegdblaohhdoaaDoor.S1
open Go.Proofs.YtfegdblaohhdoaaDoor.Lk
open Go.Proofs.YtfegdblaohhdoaaDoor.Nu
open Go.Proofs.YtfegdblaohhdoaaDoor.Cur (numL)
open Go.Proofs.YtfegdblaohhdoaaDoor.Oct (fitsB)
open Go.Proofs.YtfegdblaohhdoaaDoor.Own (k7 k8 k9 k10 ownM isKind fieldsOf)
open Go.Proofs.YtfegdblaohhdoaaDoor.F1 (bt bt_nn bt_lt num_two putB putO okT encT enc1 ok1 outT placed)
set_option linter.unusedVariables false
set_option maxRecDepth 100000
set_option maxRecDepth 100000

/-- Is it bare? -/
def bare (m : M) : Bool := isKind m && M.same m (ownM m)
theorem is_7 {m : M} (h : m.kind = 7) : isKind m = true ∧ ownM m = { k7 m with kind := m.kind } := by
  have hi : isKind m = true := by simp [isKind, h]
  exact ⟨hi, by simp [ownM, hi, fieldsOf, h]⟩
theorem is_8 {m : M} (h : m.kind = 8) : isKind m = true ∧ ownM m = { k8 m with kind := m.kind } := by
  have hi : isKind m = true := by simp [isKind, h]
  exact ⟨hi, by simp [ownM, hi, fieldsOf, h]⟩
theorem is_9 {m : M} (h : m.kind = 9) : isKind m = true ∧ ownM m = { k9 m with kind := m.kind } := by
  have hi : isKind m = true := by simp [isKind, h]
  exact ⟨hi, by simp [ownM, hi, fieldsOf, h]⟩
theorem is_10 {m : M} (h : m.kind = 10) : isKind m = true ∧ ownM m = { k10 m with kind := m.kind } := by
  have hi : isKind m = true := by simp [isKind, h]
  exact ⟨hi, by simp [ownM, hi, fieldsOf, h]⟩
/-- Is there room for each of its numbers? -/
def nums (m : M) : Bool := fitsB m.nonce 2 && (fitsB m.interval 2 && (fitsB m.seq 2 && fitsB m.cost 2))
/-- How many bytes an address has, by its encoding. -/
def sizeA (ae : Int) : Nat := if ae = 1 then 4 else if ae = 2 then 16 else if ae = 3 then 8 else 0
/-- May an address be, in an encoding? -/
def shB (ae : Int) (a : ByteArray) : Bool := if ae = 3 then link a else decide (0 ≤ ae ∧ ae ≤ 3) && decide (a.size = sizeA ae)
/-- What stands of it; and what stands so. -/
def shT (ae : Int) (a : ByteArray) : ByteArray := if ae = 3 then shA a else if shB ae a then a else ⟨#[]⟩
def lgT (ae : Int) (s : ByteArray) : ByteArray := if ae = 3 then lgA s else s
/-- What a kind has for itself. -/
def kindB (m : M) : Bool := if m.kind = 7 ∨ m.kind = 8 then true else if m.kind = 9 then decide (0 ≤ m.flags ∧ m.flags ≤ 1) else if m.kind = 10 then shB m.ae m.addr else false
/-- May it be? -/
def okF (m : M) : Bool := bare m && (okS m.sl && (nums m && kindB m))
def typF (m : M) : Int := if m.kind = 7 then 2 else if m.kind = 8 then 3 else if m.kind = 9 then 4 else 5
/-- The fields of each kind. -/
def fld7 (m : M) : List UInt8 := 0 :: 0 :: (layN m.nonce 2 ++ layN m.interval 2)
def fld9 (m : M) : List UInt8 := layN (m.flags * 32768) 2 ++ (layN m.seq 2 ++ layN m.interval 2)
def fld10 (m : M) : List UInt8 := layN m.ae 1 ++ (0 :: (layN m.cost 2 ++ (layN m.interval 2 ++ (shT m.ae m.addr).data.toList)))
def fldF (m : M) : List UInt8 := if m.kind = 7 then fld7 m else if m.kind = 8 then layN m.nonce 2 else if m.kind = 9 then fld9 m else fld10 m
/-- A TLV's data; its bytes. -/
def datF (m : M) : ByteArray := ⟨(fldF m ++ (putS m.sl).data.toList).toArray⟩
def putF (m : M) : ByteArray := if okF m then putO (typF m) (datF m) else ⟨#[]⟩
theorem putF_yes {m : M} (h : okF m = true) : putF m = putO (typF m) (datF m) := by unfold putF; rw [if_pos h]
theorem putF_no {m : M} (h : okF m = false) : putF m = ⟨#[]⟩ := by unfold putF; rw [if_neg (by rw [h]; exact Bool.false_ne_true)]

/-- The number of two bytes. -/
def num2 (d : ByteArray) (a : Nat) : Int := ((numL ((d.data.toList.drop a).take 2) : Nat) : Int)
/-- What the fields of each type say. -/
def hd2 (d : ByteArray) : M := { M.zero with kind := 7, nonce := num2 d 2, interval := num2 d 4 }
def hd3 (d : ByteArray) : M := { M.zero with kind := 8, nonce := num2 d 0 }
def hd4 (d : ByteArray) : M := { M.zero with kind := 9, flags := bt d 0 / 128, seq := num2 d 2, interval := num2 d 4 }
def hd5 (d : ByteArray) : M := { M.zero with kind := 10, ae := bt d 0, cost := num2 d 2, interval := num2 d 4, addr := lgT (bt d 0) (d.extract 6 (6 + sizeA (bt d 0))) }
def hdF (t : Int) (d : ByteArray) : M := if t = 2 then hd2 d else if t = 3 then hd3 d else if t = 4 then hd4 d else hd5 d
/-- How many bytes the fields have. -/
def szF (t : Int) (d : ByteArray) : Nat := if t = 3 then 2 else if t = 5 then 6 + sizeA (bt d 0) else 6
/-- Is it an Ihu of an encoding that there isn't? -/
def noF (t : Int) (d : ByteArray) : Prop := t = 5 ∧ 3 < bt d 0
/-- The message that a TLV says, whether it counts, the error. -/
noncomputable def outF (t : Int) (d : ByteArray) : M × Bool × Int :=
  open Classical in
  if d.size < szF t d then (M.zero, false, 2) else if noF t d then (M.zero, false, 0)
  else if (outS (d.extract (szF t d) d.size)).2.2 = 0 ∧ (outS (d.extract (szF t d) d.size)).2.1 = true then ({ hdF t d with sl := (outS (d.extract (szF t d) d.size)).1 }, true, 0)
  else (M.zero, false, (outS (d.extract (szF t d) d.size)).2.2)
theorem out_yes {t : Int} {d : ByteArray} {l : List El} (h : ¬ d.size < szF t d) (k : ¬ noF t d) (o : outS (d.extract (szF t d) d.size) = (l, true, 0)) : outF t d = ({ hdF t d with sl := l }, true, 0) := by
  unfold outF; rw [if_neg h, if_neg k, o, if_pos ⟨rfl, rfl⟩]
theorem size_list (a : ByteArray) : a.data.toList.length = a.size := by simp

theorem sizeA_le (ae : Int) : sizeA ae ≤ 16 := by unfold sizeA; split <;> (try split) <;> (try split) <;> omega
theorem sh_3 (a : ByteArray) : shB 3 a = link a ∧ shT 3 a = shA a := ⟨rfl, rfl⟩
theorem sh_n {ae : Int} (h : ¬ ae = 3) (a : ByteArray) : shB ae a = (decide (0 ≤ ae ∧ ae ≤ 3) && decide (a.size = sizeA ae)) ∧ shT ae a = if shB ae a then a else ⟨#[]⟩ := by
  unfold shT shB; rw [if_neg h, if_neg h]; exact ⟨rfl, rfl⟩
theorem sh_facts {ae : Int} {a : ByteArray} (h : shB ae a = true) : 0 ≤ ae ∧ ae ≤ 3 ∧ (shT ae a).size = sizeA ae ∧ lgT ae (shT ae a) = a := by
  by_cases h3 : ae = 3
  · subst h3
    exact ⟨by decide, by decide, sh_size h, lg_sh h⟩
  · have e := h
    rw [(sh_n h3 a).1] at e
    simp only [Bool.and_eq_true, decide_eq_true_eq] at e
    have e2 : shT ae a = a := by rw [(sh_n h3 a).2, if_pos h]
    exact ⟨e.1.1, e.1.2, by rw [e2]; exact e.2, by rw [e2]; unfold lgT; rw [if_neg h3]⟩
structure Ok (m : M) : Prop where
  bare : bare m = true
  subs : okS m.sl = true
  nonce : fitsB m.nonce 2 = true
  interval : fitsB m.interval 2 = true
  seq : fitsB m.seq 2 = true
  cost : fitsB m.cost 2 = true
  kind : kindB m = true
theorem ok_iff (m : M) : okF m = true ↔ Ok m := by
  unfold okF nums
  simp only [Bool.and_eq_true]
  exact ⟨fun ⟨a, b, ⟨c, d, e, f⟩, g⟩ => ⟨a, b, c, d, e, f, g⟩, fun ⟨a, b, c, d, e, f, g⟩ => ⟨a, b, ⟨c, d, e, f⟩, g⟩⟩
theorem kind_cases {m : M} (h : kindB m = true) : m.kind = 7 ∨ m.kind = 8 ∨ (m.kind = 9 ∧ 0 ≤ m.flags ∧ m.flags ≤ 1) ∨ (m.kind = 10 ∧ shB m.ae m.addr = true) := by
  unfold kindB at h
  split at h
  · rename_i h1
    rcases h1 with h1 | h1
    · exact .inl h1
    · exact .inr (.inl h1)
  split at h
  · rename_i h1 h2
    exact .inr (.inr (.inl ⟨h2, by simpa using h⟩))
  split at h
  · rename_i h1 h2 h3
    exact .inr (.inr (.inr ⟨h3, h⟩))
  · cases h
theorem fits2 {n : Int} (h0 : 0 ≤ n) (h1 : n < 65536) : fitsB n 2 = true := (Oct.fitsB_iff n 2).2 ⟨by omega, by omega, h0, by simpa [Oct.pw] using h1⟩
theorem fits1 {n : Int} (h0 : 0 ≤ n) (h1 : n < 256) : fitsB n 1 = true := (Oct.fitsB_iff n 1).2 ⟨by omega, by omega, h0, by simpa [Oct.pw] using h1⟩
theorem flags_fit {n : Int} (h0 : 0 ≤ n) (h1 : n ≤ 1) : fitsB (n * 32768) 2 = true := fits2 (by omega) (by omega)

theorem f_7 {m : M} (h : m.kind = 7) : typF m = 2 ∧ fldF m = fld7 m := by unfold typF fldF; rw [if_pos h, if_pos h]; exact ⟨rfl, rfl⟩
theorem f_8 {m : M} (h : m.kind = 8) : typF m = 3 ∧ fldF m = layN m.nonce 2 := by
  unfold typF fldF; rw [if_neg (by omega), if_pos h, if_neg (by omega), if_pos h]; exact ⟨rfl, rfl⟩
theorem f_9 {m : M} (h : m.kind = 9) : typF m = 4 ∧ fldF m = fld9 m := by
  unfold typF fldF; rw [if_neg (by omega), if_neg (by omega), if_pos h, if_neg (by omega), if_neg (by omega), if_pos h]; exact ⟨rfl, rfl⟩
theorem f_10 {m : M} (h : m.kind = 10) : typF m = 5 ∧ fldF m = fld10 m := by
  unfold typF fldF; rw [if_neg (by omega), if_neg (by omega), if_neg (by omega), if_neg (by omega), if_neg (by omega), if_neg (by omega)]; exact ⟨rfl, rfl⟩
theorem fld_len {m : M} (h : okF m = true) : (fldF m).length ≤ 22 ∧ 2 ≤ typF m ∧ typF m ≤ 5 := by
  obtain ⟨_, _, n1, n2, n3, n4, hk⟩ := (ok_iff m).1 h
  rcases kind_cases hk with k | k | ⟨k, f0, f1⟩ | ⟨k, ha⟩
  · rw [(f_7 k).1, (f_7 k).2]; unfold fld7; simp [lay_len n1, lay_len n2]
  · rw [(f_8 k).1, (f_8 k).2]; simp [lay_len n1]
  · rw [(f_9 k).1, (f_9 k).2]; unfold fld9; simp [lay_len (flags_fit f0 f1), lay_len n2, lay_len n3]
  · obtain ⟨a0, a1, a2, _⟩ := sh_facts ha
    have := sizeA_le m.ae
    rw [(f_10 k).1, (f_10 k).2]; unfold fld10
    simp [lay_len n2, lay_len n4, lay_len (fits1 (n := m.ae) a0 (by omega)), a2]
    omega
theorem dat_size (m : M) : (datF m).size = (fldF m).length + (putS m.sl).size := by
  show (fldF m ++ (putS m.sl).data.toList).toArray.size = _
  simp
theorem dat_le {m : M} (h : okF m = true) : (datF m).size ≤ 222 := by
  have := (fld_len h).1
  have := putS_le m.sl
  rw [dat_size]; omega
theorem putB_yes {m : M} (h : okF m = true) : putB (typF m) (datF m) = true := by
  have := fld_len h
  have := dat_le h
  unfold putB
  simp
  omega
theorem putF_ok {m : M} (h : okF m = true) : (putF m).data.toList = enc1 (datF m, typF m) ∧ ok1 (datF m, typF m) := by
  have h1 := fld_len h
  have h2 := dat_le h
  have ho : ok1 (datF m, typF m) := ⟨by show 0 ≤ typF m; omega, by show typF m ≤ 255; omega, by show (datF m).size ≤ 255; omega, fun e => by have : typF m = 0 := e; omega⟩
  refine ⟨?_, ho⟩
  rw [putF_yes h, (F1.put_ok ho (by show ¬ typF m = 0; omega)).2]
theorem cut7 (c0 c1 : UInt8) (x1 x2 r : List UInt8) (h1 : x1.length = 2) (h2 : x2.length = 2) :
    ((c0 :: c1 :: (x1 ++ (x2 ++ r))).drop 2).take 2 = x1 ∧ ((c0 :: c1 :: (x1 ++ (x2 ++ r))).drop 4).take 2 = x2 ∧ (c0 :: c1 :: (x1 ++ (x2 ++ r))).drop 6 = r ∧ (c0 :: c1 :: (x1 ++ (x2 ++ r))).length = 6 + r.length := by
  match x1, h1, x2, h2 with
  | [_, _], _, [_, _], _ => exact ⟨rfl, rfl, rfl, by simp; omega⟩
theorem cut8 (x1 r : List UInt8) (h1 : x1.length = 2) : (x1 ++ r).take 2 = x1 ∧ (x1 ++ r).drop 2 = r := by
  match x1, h1 with
  | [_, _], _ => exact ⟨rfl, rfl⟩
theorem cut9 (x0 x1 x2 r : List UInt8) (h0 : x0.length = 2) (h1 : x1.length = 2) (h2 : x2.length = 2) :
    (x0 ++ (x1 ++ (x2 ++ r))).take 2 = x0 ∧ ((x0 ++ (x1 ++ (x2 ++ r))).drop 2).take 2 = x1 ∧ ((x0 ++ (x1 ++ (x2 ++ r))).drop 4).take 2 = x2 ∧ (x0 ++ (x1 ++ (x2 ++ r))).drop 6 = r := by
  match x0, h0, x1, h1, x2, h2 with
  | [_, _], _, [_, _], _, [_, _], _ => exact ⟨rfl, rfl, rfl, rfl⟩
theorem num2_of {d : ByteArray} {a : Nat} {v : Int} (h : (d.data.toList.drop a).take 2 = layN v 2) (hf : fitsB v 2 = true) : num2 d a = v := by unfold num2; rw [h]; exact lay_num hf
theorem ext_to (d : ByteArray) (a : Nat) : (d.extract a d.size).data.toList = d.data.toList.drop a := by
  rw [ext_list, List.take_of_length_le (by rw [List.length_drop, size_list]; exact Nat.le_refl _)]
/-- A message that may be is that of its TLV. -/
theorem put_back {m : M} (h : okF m = true) : outF (typF m) (datF m) = ({ ownM m with sa := none, sc := 0 }, true, 0) := by
  obtain ⟨_, hx, n1, n2, n3, n4, hk⟩ := (ok_iff m).1 h
  have hl : (datF m).data.toList = fldF m ++ (putS m.sl).data.toList := rfl
  generalize datF m = d at *
  have tail : ∀ z, d.data.toList.drop z = (putS m.sl).data.toList → outS (d.extract z d.size) = (m.sl, true, 0) := fun z hz => by
    rw [show d.extract z d.size = putS m.sl from text_eq (by rw [ext_to, hz])]
    exact put_out hx
  rcases kind_cases hk with k | k | ⟨k, f0, f1⟩ | ⟨k, ha⟩
  · rw [(f_7 k).2] at hl
    rw [(f_7 k).1, (is_7 k).2]
    have e : d.data.toList = 0 :: 0 :: (layN m.nonce 2 ++ (layN m.interval 2 ++ (putS m.sl).data.toList)) := by rw [hl]; simp [fld7]
    obtain ⟨q1, q2, q3, q4⟩ := cut7 0 0 _ _ (putS m.sl).data.toList (lay_len n1) (lay_len n2)
    rw [← e] at q1 q2 q3 q4
    rw [out_yes (t := 2) (by show ¬ d.size < 6; rw [← size_list, q4]; omega) (fun x => by have := x.1; omega) (tail 6 q3)]
    rw [show hdF 2 d = hd2 d from rfl]
    unfold hd2
    rw [num2_of q1 n1, num2_of q2 n2, k]
    rfl
  · rw [(f_8 k).2] at hl
    rw [(f_8 k).1, (is_8 k).2]
    obtain ⟨q1, q2⟩ := cut8 _ (putS m.sl).data.toList (lay_len n1)
    have hz : 2 ≤ d.size := by rw [← size_list, hl, List.length_append, lay_len (k := 2) n1]; omega
    rw [← hl] at q1 q2
    rw [out_yes (t := 3) (by show ¬ d.size < 2; omega) (fun x => by have := x.1; omega) (tail 2 q2)]
    rw [show hdF 3 d = hd3 d from rfl]
    unfold hd3
    rw [num2_of (a := 0) q1 n1, k]
    rfl
  · rw [(f_9 k).2] at hl
    rw [(f_9 k).1, (is_9 k).2]
    have hff := flags_fit f0 f1
    have e : d.data.toList = layN (m.flags * 32768) 2 ++ (layN m.seq 2 ++ (layN m.interval 2 ++ (putS m.sl).data.toList)) := by rw [hl]; simp [fld9]
    have hz : 6 ≤ d.size := by rw [← size_list, e]; simp only [List.length_append, lay_len hff, lay_len n2, lay_len n3]; omega
    obtain ⟨q0, q1, q2, q3⟩ := cut9 _ _ _ (putS m.sl).data.toList (lay_len hff) (lay_len n3) (lay_len n2)
    rw [← e] at q0 q1 q2 q3
    rw [out_yes (t := 4) (by show ¬ d.size < 6; omega) (fun x => by have := x.1; omega) (tail 6 q3)]
    rw [show hdF 4 d = hd4 d from rfl]
    have hb : bt d 0 / 128 = m.flags := by
      have e1 : 256 * bt d 0 + bt d 1 = m.flags * 32768 := (num_two d 0 (by omega)).symm.trans (num2_of (a := 0) q0 hff)
      have := bt_nn d 1
      have := bt_lt d 1
      omega
    unfold hd4
    rw [hb, num2_of q1 n3, num2_of q2 n2, k]
    rfl
  · rw [(f_10 k).2] at hl
    rw [(f_10 k).1, (is_10 k).2]
    obtain ⟨a0, a1, a2, a3⟩ := sh_facts ha
    have hf := fits1 (n := m.ae) a0 (by omega)
    obtain ⟨c, hc⟩ : ∃ c, layN m.ae 1 = [c] := by
      have := lay_len hf
      match layN m.ae 1, this with
      | [c], _ => exact ⟨c, rfl⟩
    have e : d.data.toList = c :: 0 :: (layN m.cost 2 ++ (layN m.interval 2 ++ ((shT m.ae m.addr).data.toList ++ (putS m.sl).data.toList))) := by rw [hl]; simp [fld10, hc]
    obtain ⟨q1, q2, q3, q4⟩ := cut7 c 0 _ _ ((shT m.ae m.addr).data.toList ++ (putS m.sl).data.toList) (lay_len n4) (lay_len n2)
    rw [← e] at q1 q2 q3 q4
    have hb : bt d 0 = m.ae := by
      have e1 := lay_num hf
      rw [hc] at e1
      unfold bt
      rw [e]
      show (c.toNat : Int) = _
      rw [← e1]
      simp [numL]
    have hz : d.size = 6 + (sizeA m.ae + (putS m.sl).size) := by rw [← size_list, q4, List.length_append, size_list, size_list, a2]
    have e6 : d.data.toList.drop (6 + sizeA m.ae) = (putS m.sl).data.toList := by
      rw [← List.drop_drop, q3, ← a2, ← size_list]
      exact List.drop_left ..
    have ea : d.extract 6 (6 + sizeA m.ae) = shT m.ae m.addr := text_eq (by
      rw [ext_list, Nat.add_sub_cancel_left, q3, ← a2, ← size_list]
      exact List.take_left ..)
    have hs : szF 5 d = 6 + sizeA m.ae := by show 6 + sizeA (bt d 0) = _; rw [hb]
    rw [out_yes (t := 5) (l := m.sl) (by rw [hs]; omega) (fun x => by have := x.2; omega) (by rw [hs]; exact tail _ e6)]
    rw [show hdF 5 d = hd5 d from rfl]
    unfold hd5
    rw [hb, ea, a3, num2_of q1 n4, num2_of q2 n2, k]
    rfl
end Go.Proofs.YtfegdblaohhdoaaDoor.G1
namespace Go.Proofs.YtfegdblaohhdoaaDoor.I1
open Go.ChangeShapes Go.WideShapes Go.ChangeAt Go.RowKit
open Go.Proofs.YtfegdblaohhdoaaDoor.Ms
open Go.Proofs.YtfegdblaohhdoaaDoor.S1 (okS outS)
open Go.Proofs.YtfegdblaohhdoaaDoor.G1 (outF)
open Go.Proofs.YtfegdblaohhdoaaDoor.J1 (outJ)
open Go.Proofs.YtfegdblaohhdoaaDoor.K1
open Go.Proofs.YtfegdblaohhdoaaDoor.F1
open Go.Proofs.YtfegdblaohhdoaaDoor.Nu (text_eq ext_list)
set_option linter.unusedVariables false
set_option maxRecDepth 100000
set_option maxRecDepth 100000

/-- A message of a type that nobody knows. -/
def opM (t : Int) (d : ByteArray) : M := { M.zero with kind := 14, typ := t, data := d }
/-- A message's answer, beside what is known. -/
def tell (c : Kx) (p : M × Bool × Int) : Kx × List M × Int := (c, if p.2.2 = 0 ∧ p.2.1 = true then [p.1] else [], p.2.2)
/-- A TLV's messages, what is known behind it, or its error. -/
noncomputable def one (c : Kx) (t : Int) (d : ByteArray) : Kx × List M × Int :=
  if t = 0 ∨ t = 1 then (c, [], 0) else if 2 ≤ t ∧ t ≤ 5 then tell c (outF t d) else if 6 ≤ t ∧ t ≤ 8 then outC c t d else if t = 9 ∨ t = 10 then tell c (outJ t d) else (c, [opM t d], 0)
theorem one_f {t : Int} (h2 : 2 ≤ t) (h5 : t ≤ 5) (c : Kx) (d : ByteArray) : one c t d = tell c (outF t d) := by unfold one; rw [if_neg (by omega), if_pos ⟨h2, h5⟩]
theorem one_j {t : Int} (h : t = 9 ∨ t = 10) (c : Kx) (d : ByteArray) : one c t d = tell c (outJ t d) := by unfold one; rw [if_neg (by omega), if_neg (by omega), if_neg (by omega), if_pos h]
theorem one_o {t : Int} (h : t < 0 ∨ 10 < t) (c : Kx) (d : ByteArray) : one c t d = (c, [opM t d], 0) := by unfold one; rw [if_neg (by omega), if_neg (by omega), if_neg (by omega), if_neg (by omega)]

end Go.Proofs.YtfegdblaohhdoaaDoor.I1
namespace Go.Proofs.YtfegdblaohhdoaaDoor.L1
open Go.ChangeShapes Go.WideShapes Go.ChangeAt Go.RowKit
open Go.Proofs.YtfegdblaohhdoaaDoor.Ms
open Go.Proofs.YtfegdblaohhdoaaDoor.S1 (okS outS putS put_out putS_le outS_yes)
open Go.Proofs.YtfegdblaohhdoaaDoor.Lk
open Go.Proofs.YtfegdblaohhdoaaDoor.G1 (outF okF typF datF)
open Go.Proofs.YtfegdblaohhdoaaDoor.J1
open Go.Proofs.YtfegdblaohhdoaaDoor.K1
open Go.Proofs.YtfegdblaohhdoaaDoor.I1
open Go.Proofs.YtfegdblaohhdoaaDoor.Oct (fitsB)
open Go.Proofs.YtfegdblaohhdoaaDoor.Own (k11 k14 ownM isKind fieldsOf)
open Go.Proofs.YtfegdblaohhdoaaDoor.F1 (T okT okT_nil okT_snoc encT enc1 ok1 outT placed bt bt_nn bt_lt encT_cons encT_nil enc1_len okT_append)
open Go.Proofs.YtfegdblaohhdoaaDoor.Nu
set_option linter.unusedVariables false
set_option maxRecDepth 100000
set_option maxRecDepth 100000

/-- A message as it comes back. -/
def canM (m : M) : M := { ownM m with sa := none, sc := 0 }
theorem is_14 {m : M} (h : m.kind = 14) : isKind m = true ∧ ownM m = { k14 m with kind := m.kind } := by
  have hi : isKind m = true := by simp [isKind, h]
  exact ⟨hi, by simp [ownM, hi, fieldsOf, h]⟩
theorem can_14 {m : M} (h : m.kind = 14) : canM m = opM m.typ m.data := by
  unfold canM; rw [(is_14 h).2, h]; rfl
/-- An Update, part by part. -/
structure Oku (m : M) : Prop where
  kind : m.kind = 11
  bare : bare m = true
  subs : okS m.sl = true
  pfx : inB m.ae m.pfx m.plen = true
  iv : fitsB m.interval 2 = true
  seq : fitsB m.seq 2 = true
  metric : fitsB m.metric 2 = true
  way : wayB m = true
theorem oku_iff (m : M) : okU m = true ↔ Oku m := by
  unfold okU
  simp only [Bool.and_eq_true, decide_eq_true_eq]
  exact ⟨fun h => ⟨h.1, h.2.1, h.2.2.1, h.2.2.2.1, h.2.2.2.2.1, h.2.2.2.2.2.1, h.2.2.2.2.2.2.1, h.2.2.2.2.2.2.2⟩, fun h => ⟨h.1, h.2, h.3, h.4, h.5, h.6, h.7, h.8⟩⟩
theorem empty_of {a : ByteArray} (h : a.size = 0) : a = ByteArray.empty := ByteArray.ext (Array.eq_empty_of_size_eq_zero h)
theorem way_near {m : M} (h : wayB m = true) (hm : ¬ m.metric = 65535) : ¬ m.ae = 0 ∧ m.id.size = 8 ∧ (m.next.size = 0 ∨ famA m.next = fam m.ae) := by
  unfold wayB at h
  rw [if_neg hm] at h
  simp only [Bool.and_eq_true, Bool.or_eq_true, Bool.not_eq_true', decide_eq_false_iff_not, decide_eq_true_eq, em_size] at h
  exact h

/-- An Update's fields and prefix, but for its first n bytes. -/
def flB (m : M) : Int := if m.ae = 0 then 0 else 128
def updL (m : M) (n : Nat) : List UInt8 :=
  layN m.ae 1 ++ (layN (flB m) 1 ++ (layN m.plen 1 ++ (layN (n : Int) 1 ++ (layN m.interval 2 ++ (layN m.seq 2 ++ (layN m.metric 2 ++ ((cutP m.ae m.pfx m.plen).data.toList.drop n ++ (putS m.sl).data.toList)))))))
def updD (m : M) (n : Nat) : ByteArray := ⟨(updL m n).toArray⟩
theorem upd_size {m : M} {n : Nat} (h : okU m = true) (hn : n ≤ countN m.ae m.plen) : (updD m n).size = 10 + (countN m.ae m.plen - n) + (putS m.sl).size ∧ (updD m n).size ≤ 226 := by
  have o := (oku_iff m).1 h
  obtain ⟨a0, a1, p0, p1⟩ := len_range (in_cases o.pfx).1
  have hc := count_le (in_cases o.pfx).1
  have hz := cut_size o.pfx
  have hs := putS_le m.sl
  have l1 := fun (v : Int) (h0 : 0 ≤ v) (h1 : v < 256) => lay_one h0 h1
  obtain ⟨ca, ha, _⟩ := l1 m.ae a0 (by omega)
  obtain ⟨cf, hf, _⟩ := l1 (flB m) (by unfold flB; split <;> omega) (by unfold flB; split <;> omega)
  obtain ⟨cp, hp, _⟩ := l1 m.plen p0 (by omega)
  obtain ⟨cn, hn1, _⟩ := l1 (n : Int) (by omega) (by omega)
  have e : (updD m n).size = 10 + (countN m.ae m.plen - n) + (putS m.sl).size := by
    show (updL m n).toArray.size = _
    unfold updL
    rw [ha, hf, hp, hn1, List.size_toArray]
    simp only [List.length_append, lay_len o.iv, lay_len o.seq, lay_len o.metric, List.length_drop, List.length_cons, List.length_nil, J1.size_list, hz]
    omega
  exact ⟨e, by rw [e]; omega⟩
/-- What is known behind an Update. -/
def knowP (c : Kx) (m : M) : Kx := if m.ae = 0 then c else c.setP m.ae m.pfx
/-- A router-id's TLV. -/
def idD (a : ByteArray) : ByteArray := ⟨(0 :: 0 :: a.data.toList).toArray⟩
/-- A next hop's TLV. -/
def hopE (a : ByteArray) : Int := if a.size = 4 then 1 else if link a = true then 3 else 2
def hopS (a : ByteArray) : ByteArray := if a.size = 4 then a else if link a = true then shA a else a
def hopD (a : ByteArray) : ByteArray := ⟨(layN (hopE a) 1 ++ (0 :: (hopS a).data.toList)).toArray⟩
theorem hop_cases {a : ByteArray} (h : a.size = 4 ∨ a.size = 16) : 1 ≤ hopE a ∧ hopE a ≤ 3 ∧ (hopS a).size = sizeA (hopE a) ∧ fam (hopE a) = famA a ∧ (if hopE a = 3 then lgA (hopS a) else hopS a) = a := by
  unfold hopE hopS
  by_cases h4 : a.size = 4
  · rw [if_pos h4, if_pos h4]
    exact ⟨by omega, by omega, by rw [h4]; rfl, by unfold famA; rw [if_pos h4]; rfl, by rw [if_neg (by decide)]⟩
  have h16 : a.size = 16 := by omega
  by_cases hl : link a = true
  · rw [if_neg h4, if_neg h4, if_pos hl, if_pos hl]
    exact ⟨by omega, by omega, by rw [sh_size hl]; rfl, by unfold famA; rw [if_neg h4, if_pos h16]; rfl, by rw [if_pos rfl]; exact lg_sh hl⟩
  · rw [if_neg h4, if_neg h4, if_neg hl, if_neg hl]
    exact ⟨by omega, by omega, by rw [h16]; rfl, by unfold famA; rw [if_neg h4, if_pos h16]; rfl, by rw [if_neg (by decide)]⟩
theorem hop_size {a : ByteArray} (h : a.size = 4 ∨ a.size = 16) : (hopD a).size = 2 + sizeA (hopE a) ∧ (hopD a).size ≤ 18 := by
  obtain ⟨h1, h3, hs, _, _⟩ := hop_cases h
  obtain ⟨ca, ha, _⟩ := lay_one (v := hopE a) (by omega) (by omega)
  have e : (hopD a).size = 2 + sizeA (hopE a) := by
    show (layN (hopE a) 1 ++ (0 :: (hopS a).data.toList)).toArray.size = _
    rw [ha]; simp; omega
  refine ⟨e, ?_⟩
  rw [e]; unfold sizeA; split <;> (try split) <;> (try split) <;> omega
end Go.Proofs.YtfegdblaohhdoaaDoor.L1
namespace Go.Proofs.YtfegdblaohhdoaaDoor.Ld
open Go.ChangeShapes Go.WideShapes Go.ChangeAt Go.RowKit
open Go.Proofs.YtfegdblaohhdoaaDoor.Bits
open Go.Proofs.YtfegdblaohhdoaaDoor.Pre
set_option linter.unusedVariables false
set_option maxRecDepth 100000
set_option maxRecDepth 100000
theorem lead_le (a b : ByteArray) : leadN a b ≤ a.size ∧ leadN a b ≤ b.size := by
  have h := alike_le a.data.toList b.data.toList
  rw [len_list, len_list] at h
  unfold leadN
  omega

/-- the bytes ahead are the same -/
theorem lead_same (a b : ByteArray) : a.extract 0 (leadN a b) = b.extract 0 (leadN a b) := by
  obtain ⟨h1, h2⟩ := lead_le a b
  apply bytes_inj
  rw [head_list, head_list]
  apply list_ext
  · rw [List.length_take, List.length_take, len_list, len_list]; omega
  · intro i hi
    rw [List.length_take, len_list] at hi
    have e : ∀ l : List UInt8, i / 8 < leadN a b → bitL (l.take (leadN a b)) i = bitL l i := by
      intro l h
      unfold bitL
      simp [List.getD, List.getElem?_take_of_lt h]
    rw [e _ (by omega), e _ (by omega)]
    exact alike_below _ _ i (by unfold leadN at hi; omega)

/-- and the one behind them isn't -/
theorem lead_other (a b : ByteArray) (h1 : leadN a b < a.size) (h2 : leadN a b < b.size) : a[leadN a b].toNat ≠ b[leadN a b].toNat := by
  intro he
  have hn : alikeN a.data.toList b.data.toList < 8 * min a.data.toList.length b.data.toList.length := by
    rw [len_list, len_list]; unfold leadN at h1 h2; omega
  apply alike_at _ _ hn
  unfold bitL
  have e : alikeN a.data.toList b.data.toList / 8 = leadN a b := rfl
  rw [e, getD_byte a _ h1, getD_byte b _ h2, he]
end Go.Proofs.YtfegdblaohhdoaaDoor.Ld
