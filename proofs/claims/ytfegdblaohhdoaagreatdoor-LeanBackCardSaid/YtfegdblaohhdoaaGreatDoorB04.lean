/-
  A list of Subs of a call's own, one appended behind the other: its cells, and that its Subs stand in the world; one operation of a region that draws its order. No conditions.
  What stands beside a message's copy; the answer of a Get of messages with Subs alone: a message, whether it counts, an error; what few parts say. No conditions.
  Whether two lists of messages are the same: the program's answer (slices.EqualFunc) and the document's; whether a list has few messages. Condition: lists within of at most 2^20 elements.
  A list of messages of a call's own, one appended behind the other: its cells, and that its messages stand in the world. No conditions.
  One operation of a region that draws its order, by hand: one alone, or two that may come next. No conditions.
  A list of TLVs of a call's own, one appended behind the other, or a list behind it: its cells, and that its TLVs stand in the world; whether two are the same. No conditions, but on the lengths.
  What came in, opened: a message by value, a list of messages: each is a message whose lists stand in the world.
  What is known as the program holds it: its block, loaded and stored whole; whether two are the same; lists of messages that are alike but for where their Subs stand; what a step answers; what came in, opened. No conditions.
  What the rows' condition gives the walks: from which length to which prefixes are, and how many bytes of an address stand, by its encoding, as the two listed variables have it when the call begins; that they have the same as long as nothing that was there is changed. Generic: the variables' numbers are marks.
  A cursor at work, whatever it is; the head of a datagram: the program's readHead, Body, Trailer, Wrap, and the document's. Condition: at most 2^20 bytes.
-/
import Derived.Test.YtfegdblaohhdoaaGreatDoorB01
import Derived.Test.YtfegdblaohhdoaaGreatDoorB02
import Derived.Test.YtfegdblaohhdoaaGreatDoorB03
import Derived.Laws.AppendOwn
import Derived.Deep.WholeRow
import Derived.Laws.OwnMore
import Derived.Deep.AppendLies
import Derived.Deep.Slices
import Derived.Deep.Fields
import Derived.ChangeSame
import Derived.Carry
import Derived.Lib.SmallJoins
import Derived.Test.YtfegdblaohhdoaaGreatDoorRows
import Derived.Below
import Derived.OpenShut
import Derived.LaidLaws
import Derived.LaidMore
import Derived.Lib.LaidTab
import Derived.Stop.LaidErr
namespace Go.Proofs.YtfegdblaohhdoaaGreatDoor.Sx
open Go.ChangeShapes Go.WideShapes Go.ChangeAt Go.RowKit
open Go.Proofs.YtfegdblaohhdoaaGreatDoor.Ms
open Go.Proofs.YtfegdblaohhdoaaGreatDoor.Bk (Bk Sh)
set_option linter.unusedVariables false
set_option maxRecDepth 100000
set_option maxRecDepth 100000

/-- A Sub's cells. -/
def cellsS (x : El) : Array Value := #[.int .i64 x.2, .string x.1]
theorem oneS (x : El) : ((cellsS x).all fun x => x.oneCell') = true := by simp [cellsS, Value.oneCell']
theorem build_one (x : El) (w : World) : (Instr.buildSlice 27 1 #[(0, .agg (cellsS x))]).run Tryz.prog w = .ok (.slice (some ⟨w.heap.size, 0, none⟩) 1 1) (w.alloc (.cells (cellsS x) 46)) := by
  kernel_rfl
theorem ex_bs {o : Oper} {ρ : Operand → Value} {x : Operand} {m : El} {w : World} (ho : o.op = .buildSlice 27 1 #[(0, x)]) (hx : ρ x = .agg (cellsS m)) :
    (execOp ρ o).run Tryz.prog w = .ok (.value (.slice (some ⟨w.heap.size, 0, none⟩) 1 1)) (w.alloc (.cells (cellsS m) 46)) := by
  have e : ((#[(0, x)] : Array (Nat × Operand)).map fun (i, x) => (i, ρ x)) = #[(0, .agg (cellsS m))] := by simp [hx]
  unfold execOp
  simp only [ho, Sem.run_bind, e, build_one, Result.andThen_ok, Sem.run_pure]
theorem add_at (g o j : Nat) : (⟨g, o, none⟩ : Addr).add j = ⟨g, o + j, none⟩ := by
  unfold Addr.add
  split
  · rename_i h; rw [h]; rfl
  · rfl
/-- The cells of a list of Subs. -/
def rowS (l : List El) : List Value := l.flatMap fun x => (cellsS x).toList
theorem rowS_snoc (l : List El) (m : El) : rowS (l ++ [m]) = rowS l ++ (cellsS m).toList := by simp [rowS]
theorem rowS_at : ∀ (l : List El) (i j : Nat) (h : i < l.length), j < 2 → (rowS l)[i * 2 + j]? = ((cellsS l[i]).toList)[j]?
  | [], i, j, h, _ => absurd h (by simp)
  | m :: l, 0, j, h, hj => by
    have : rowS (m :: l) = (cellsS m).toList ++ rowS l := by simp [rowS]
    rw [this, Nat.zero_mul, Nat.zero_add, List.getElem?_append_left (by show j < (cellsS m).toList.length; exact hj)]
    rfl
  | m :: l, i + 1, j, h, hj => by
    have e : rowS (m :: l) = (cellsS m).toList ++ rowS l := by simp [rowS]
    have hl : (cellsS m).toList.length = 2 := rfl
    rw [e, List.getElem?_append_right (by rw [hl]; omega), hl, show (i + 1) * 2 + j - 2 = i * 2 + j by omega, rowS_at l i j (by simpa using h) hj]
    rfl
theorem infoS : ∃ i, Tryz.prog.info? 46 = some i ∧ i.zero = some (.agg #[.int .i64 0, .string ByteArray.empty]) ∧ i.size = 2 ∧ i.bytes ≤ 4096 := by
  have h : (Tryz.prog.info? 46).map (fun i => (i.zero, i.size, decide (i.bytes ≤ 4096))) = some (some (.agg #[.int .i64 0, .string ByteArray.empty]), 2, true) := by kernel_rfl
  obtain ⟨i, hi, hz⟩ := Option.map_eq_some_iff.1 h
  simp only [Prod.mk.injEq, decide_eq_true_eq] at hz
  exact ⟨i, hi, hz⟩

/-- The call's own list of the Subs l (what is new begins at block B). -/
def Lst (B : Nat) (w : World) (v : Value) (l : List El) : Prop := w.ownsRow B 46 2 v l.length (rowS l)
theorem Lst.nil (B : Nat) (w : World) : Lst B w (.slice none 0 0) [] := World.ownsRow_nil w B _ 2
theorem Lst.below {B : Nat} {w w' : World} {v : Value} {l : List El} (h : Lst B w v l) (hb : Below w.heap.size w w') : Lst B w' v l := by
  refine ⟨h.1, ?_⟩
  rcases h.2 with h | ⟨g, cap, cur, a, b, c, d⟩
  · exact .inl h
  · exact .inr ⟨g, cap, cur, a, b, (hb.block g (Array.getElem?_eq_some_iff.1 c).1).trans c, d⟩
theorem Lst.slice {B : Nat} {w : World} {v : Value} {l : List El} (h : Lst B w v l) : ∃ a c, v = .slice a l.length c := by
  rcases h.2 with ⟨hv, h0⟩ | ⟨g, cap, cur, hv, _⟩
  · exact ⟨none, 0, by rw [hv, h0]⟩
  · exact ⟨_, _, hv⟩
theorem Lst.row {B : Nat} {w : World} {a : Option Addr} {c : Nat} {l : List El} (h : Lst B w (.slice a l.length c) l) : SRow w a l := by
  intro i hi
  rcases h.2 with ⟨_, h0⟩ | ⟨g, cap, cur, hv, hb, hg, _⟩
  · omega
  · simp at hv
    obtain ⟨rfl, rfl⟩ := hv
    have hat : ∀ j v, j < 2 → ((cellsS l[i]).toList)[j]? = some v → w.cell? (((⟨g, 0, none⟩ : Addr).add (i * 2)).add j) = some v := fun j v hj hv => by
      have := World.ownsRow.cells h (g := g) rfl (i * 2 + j) v (by rw [rowS_at l i j hi hj]; exact hv)
      rw [add_at] at this
      rw [add_at, add_at, Nat.add_assoc]
      exact this
    exact ⟨⟨g, 0, none⟩, rfl, (Array.getElem?_eq_some_iff.1 hg).1, hat 0 _ (by decide) rfl, hat 1 _ (by decide) rfl⟩

theorem cells_new (m : El) (w : World) : ∀ j u, ((cellsS m).toList)[j]? = some u → (w.alloc (.cells (cellsS m) 46)).cell? ((⟨w.heap.size, 0, none⟩ : Addr).add j) = some u := by
  intro j u hu
  have := (Bk.Bk.new 46 w (cellsS m)).cell j u (by simpa using hu)
  rw [add_at, Nat.zero_add]
  exact this

theorem wp_app {o : Oper} {a : Act} {w : World} {Q : Exit → Act → World → Prop} {K : Act → World → Prop} (s x : Operand)
    (ho : o.op = .call { callee := .builtin .append, args := #[s, x], argTypes := #[27, 27] }) (B : Nat) (v : Value) (l : List El) (m : El) (g c : Nat)
    (hs : a.eval s = v) (hown : Lst B w v l) (hx : a.eval x = .slice (some ⟨g, 0, none⟩) 1 c) (hm : ∀ j u, ((cellsS m).toList)[j]? = some u → w.cell? ((⟨g, 0, none⟩ : Addr).add j) = some u)
    (hl : l.length ≤ 100000) (hB : B ≤ w.heap.size)
    (h : ∀ v' w', Lst B w' v' (l ++ [m]) → w.grownBy w' v.ownBlock → Below B w w' → K (a.put o.dst v') w') : Oper.wp Tryz.prog o a w K Q := by
  obtain ⟨i0, hi, hz, hsz, hby⟩ := infoS
  refine wp_append_own w s x 27 ho B 46 i0 (.agg #[.int .i64 0, .string ByteArray.empty]) 2 i0.bytes Tryz.underlying27 hi hz hsz rfl rfl (by decide) v l.length (rowS l) hs hown ⟨g, 0, none⟩ 1 c (cellsS m).toList hx rfl hm ?_ (by unfold maxLen; omega) ?_ hB ?_
  · intro u hu
    have := oneS m
    rw [Array.all_eq_true_iff_forall_mem] at this
    exact this u (by simpa using hu)
  · have : (l.length + 1) * i0.bytes ≤ 100001 * 4096 := Nat.mul_le_mul (by omega) hby
    omega
  · intro v' w' h2 h3 _
    refine h v' w' ?_ h3 ((Below.refl B w).grown h3 hB (fun k hk => (World.ownsRow.lt hown k hk).1))
    unfold Lst
    rw [rowS_snoc, List.length_append]
    exact h2
section
variable {P : Program} {ops : Array Oper} {Q : Exit → Act → World → Prop} {md : Region.Mode} {S : World → Prop}
theorem H.one {i : Nat} {o : Oper} {fuel : Nat} {listed : Array Bool} {a : Act} {w : World}
    (ho : ops[i]? = some o) (hw : Region.wanted o (yielded ops a.tmps) = true) (hr : Region.ready md ops listed = [i])
    (h : ∀ K : Act → World → Prop, Hid (∀ a' w', S w' → wpAnyH P md ops Q S fuel (listed.setIfInBounds i true) a' w' → K a' w') → Oper.wp P o a w K Q) : wpAnyH P md ops Q S (fuel + 1) listed a w := by
  refine wpAnyH_ready (rs := [i]) hr (by simp) ?_
  refine AllReadyH.cons ho (fun K hK => ?_) AllReadyH.nil
  rw [if_pos hw]
  exact h K (Lib.hid (fun a' w' hS hW => hK.out a' w' hS (fun _ => hW)))
end
section
variable {ops : Array Oper} {Q : Exit → Act → World → Prop} {md : Region.Mode} {S : World → Prop}
/-- []api.Sub{m} -/
theorem H.bsS {i d : Nat} {o : Oper} {fuel : Nat} {listed : Array Bool} {a : Act} {w : World}
    (ho : ops[i]? = some o) (hw : Region.wanted o (yielded ops a.tmps) = true) (hr : Region.ready md ops listed = [i]) (hd : o.dst = some d)
    (x : Operand) (hop : o.op = .buildSlice 27 1 #[(0, x)]) {m : El} (hx : a.eval x = .agg (cellsS m)) (hS : S (w.alloc (.cells (cellsS m) 46)))
    (h : wpAnyH Tryz.prog md ops Q S fuel (listed.setIfInBounds i true) (a.put (some d) (.slice (some ⟨w.heap.size, 0, none⟩) 1 1)) (w.alloc (.cells (cellsS m) 46))) : wpAnyH Tryz.prog md ops Q S (fuel + 1) listed a w := by
  refine H.one ho hw hr (fun K hK => ?_)
  unfold Oper.wp
  rw [ex_bs hop hx]
  simp only [Oper.upon, hd]
  exact hK.out _ _ hS h
/-- append(v, m), behind the making of the list of m alone. -/
theorem H.appS {i d : Nat} {o : Oper} {fuel : Nat} {listed : Array Bool} {a : Act} {w : World}
    (ho : ops[i]? = some o) (hw : Region.wanted o (yielded ops a.tmps) = true) (hr : Region.ready md ops listed = [i]) (hd : o.dst = some d)
    (s x : Operand) (hop : o.op = .call { callee := .builtin .append, args := #[s, x], argTypes := #[27, 27] }) (B : Nat) (v : Value) (l : List El) (m : El) (g c : Nat)
    (hs : a.eval s = v) (hown : Lst B w v l) (hx : a.eval x = .slice (some ⟨g, 0, none⟩) 1 c) (hm : ∀ j u, ((cellsS m).toList)[j]? = some u → w.cell? ((⟨g, 0, none⟩ : Addr).add j) = some u)
    (hl : l.length ≤ 100000) (hB : B ≤ w.heap.size) (hS : ∀ w', w.grownBy w' v.ownBlock → S w')
    (h : ∀ v' w', Lst B w' v' (l ++ [m]) → w.grownBy w' v.ownBlock → Below B w w' → wpAnyH Tryz.prog md ops Q S fuel (listed.setIfInBounds i true) (a.put (some d) v') w') : wpAnyH Tryz.prog md ops Q S (fuel + 1) listed a w := by
  refine H.one ho hw hr (fun K hK => ?_)
  refine wp_app s x hop B v l m g c hs hown hx hm hl hB fun v' w' h1 h2 h3 => ?_
  rw [hd]
  exact hK.out _ _ (hS w' h2) (h v' w' h1 h2 h3)
end
end Go.Proofs.YtfegdblaohhdoaaGreatDoor.Sx
namespace Go.Proofs.YtfegdblaohhdoaaGreatDoor.An
open Go.ChangeShapes Go.WideShapes Go.ChangeAt Go.RowKit
open Go.Proofs.YtfegdblaohhdoaaGreatDoor.Ms
open Go.Proofs.YtfegdblaohhdoaaGreatDoor.Box
set_option linter.unusedVariables false
set_option maxRecDepth 100000
set_option maxRecDepth 100000
theorem lst_under {B g : Nat} {w : World} {v : Value} {l : List El} (h : Sx.Lst B w v l) (hg : g < B) (cs : Array Value) : Sx.Lst B (w.setRow g cs) v l := by
  refine ⟨h.1, ?_⟩
  rcases h.2 with h | ⟨k, cap, cur, a, b, c, d⟩
  · exact .inl h
  · exact .inr ⟨k, cap, cur, a, b, (setRow_other w g k cs (by omega)).trans c, d⟩
theorem lst_mono {B B' : Nat} {w : World} {v : Value} {l : List El} (h : Sx.Lst B w v l) (hB : B' ≤ B) : Sx.Lst B' w v l := by
  refine ⟨h.1, ?_⟩
  rcases h.2 with h | ⟨k, cap, cur, a, b, c, d⟩
  · exact .inl h
  · exact .inr ⟨k, cap, cur, a, Nat.le_trans hB b, c, d⟩
/-- The answer: a message (its Subs are the call's own), whether it counts, an error. -/
def AnsB (p : M × Bool × Int) (w : World) (e : Ending) (w' : World) : Prop :=
  ∃ sa sc, e = .returned (.tuple #[.agg (M.cells { p.1 with sa := sa, sc := sc }), .bool p.2.1, .int .i64 p.2.2]) ∧
    Sx.Lst w.heap.size w' (.slice sa p.1.sl.length sc) p.1.sl ∧ Below w.heap.size w w'
theorem AnsB.no {p : M × Bool × Int} {w w' : World} {d : Int} (h : p = (M.zero, false, d)) (hb : Below w.heap.size w w') : AnsB p w (.returned (.tuple #[.agg M.zero.cells, .bool false, .int .i64 d])) w' := by
  subst h
  exact ⟨none, 0, rfl, Sx.Lst.nil _ _, hb⟩
theorem AnsB.subs {p : M × Bool × Int} {w w' : World} {r : M} {a : Option Addr} {l : List El} {c B : Nat} (h : p = ({ r with sl := l }, true, 0)) (hl : Sx.Lst B w' (.slice a l.length c) l) (hB : w.heap.size ≤ B) (hb : Below w.heap.size w w') :
    AnsB p w (.returned (.tuple #[.agg (M.cells { r with sa := a, sl := l, sc := c }), .bool true, .int .i64 0])) w' := by
  subst h
  exact ⟨a, c, rfl, lst_mono hl hB, hb⟩
theorem results_three {fn : Func} {P : Program} {p q r : Nat} {ty : TypeId} (h : fn.results = #[.cell p ty, .tmp q, .tmp r]) (tmps : Array Value) (w : World) (g : Nat) (u : Value)
    (hp : tmps.getD p undef = .pointer (some ⟨g, 0, none⟩)) (hl : (loadVar ty ⟨g, 0, none⟩).run P w = .ok u w) (v : Value) (hv : tmps.getD q undef = v) (x : Value) (hx : tmps.getD r undef = x) :
    (results fn tmps).run P w = .ok (.tuple #[u, v, x]) w := by
  have hp' : tmps[p]?.getD undef = .pointer (some ⟨g, 0, none⟩) := by simpa using hp
  have hv' : tmps[q]?.getD undef = v := by simpa using hv
  have hx' : tmps[r]?.getD undef = x := by simpa using hx
  simp [results, h, hp', hv', hx', asAddr, hl]
theorem ret3 {fn : Func} {p q r : Nat} (h : fn.results = #[.cell p 29, .tmp q, .tmp r]) (tmps : Array Value) (w : World) (g : Nat) (m : M)
    (hp : tmps.getD p undef = .pointer (some ⟨g, 0, none⟩)) (hm : Bx w g m) (v : Value) (hv : tmps.getD q undef = v) (x : Value) (hx : tmps.getD r undef = x) :
    (results fn tmps).run Tryz.prog w = .ok (.tuple #[.agg m.cells, v, x]) w := results_three h tmps w g _ hp (Own.loadVarM hm) v hv x hx
/-- What stays: the message's copy, its lists. -/
structure Fs (w W : World) (g : Nat) (f : M) : Prop where
  m : Bx W g f
  i : f.In W
  bel : Below w.heap.size w W
theorem Fs.call {w W w' : World} {g : Nat} {f : M} (h : Fs w W g f) (hb : Below W.heap.size W w') : Fs w w' g f := ⟨h.m.below hb, h.i.below hb, h.bel.trans (hb.mono h.bel.size)⟩
theorem Fs.new (w : World) (m : M) (hm : m.In w) : Fs w (w.alloc (.cells m.cells 29)) w.heap.size m := ⟨Bx.new w m, hm.below (balloc (Below.refl _ w) _), balloc (Below.refl _ w) _⟩
theorem Fs.drew {w W : World} {g : Nat} {f : M} (h : Fs w W g f) : Fs w W.drew g f := ⟨h.m, ⟨h.i.d, h.i.s, h.i.dl, h.i.sl⟩, h.bel.drew⟩
/-- n is m, but for where its Subs stand. -/
def Pl (n m : M) : Prop := n = { m with sa := n.sa, sc := n.sc }
theorem Pl.same {n n' m m' : M} (h : Pl n m) (h' : Pl n' m') : M.same n n' = M.same m m' := by
  rw [show n = _ from h, show n' = _ from h']
  rfl
theorem Pl.refl (m : M) : Pl m m := rfl
theorem few_parts {m : M} (h : Few.fewB m = true) : m.ll.length ≤ 300 ∧ m.sl.length ≤ 60 ∧ ∀ x ∈ m.sl, x.1.size ≤ 1099511627776 := by
  unfold Few.fewB at h
  simp only [Bool.and_eq_true, decide_eq_true_eq] at h
  refine ⟨h.1.1.1.1.1.1.1, h.1.1.1.1.1.1.2, fun x hx => ?_⟩
  have h2 := h.2
  unfold Few.small at h2
  rw [List.all_eq_true] at h2
  have := h2 x hx
  rw [decide_eq_true_eq] at this
  omega
theorem few_in {m : M} {w : World} (h : Few.fewB m = true) (hd : DRow w m.la m.ll) (hs : SRow w m.sa m.sl) : m.In w := ⟨hd, hs, by have := (few_parts h).1; omega, by have := (few_parts h).2.1; omega⟩
end Go.Proofs.YtfegdblaohhdoaaGreatDoor.An
namespace Go.Proofs.YtfegdblaohhdoaaGreatDoor.All
open Go.ChangeShapes Go.WideShapes Go.ChangeAt Go.RowKit
open Go.Proofs.YtfegdblaohhdoaaGreatDoor.Ms
open Go.Proofs.YtfegdblaohhdoaaGreatDoor.Box
open Go.Proofs.YtfegdblaohhdoaaGreatDoor.Same
open Go.Proofs.YtfegdblaohhdoaaGreatDoor.SameP
open Go.Proofs.YtfegdblaohhdoaaGreatDoor.RSame
open Go.Proofs.YtfegdblaohhdoaaGreatDoor.Hs
open Go.Proofs.YtfegdblaohhdoaaGreatDoor.Few
set_option linter.unusedVariables false
set_option maxRecDepth 100000

theorem loadVarA {w : World} {q : Addr} {m : M} (h : ∀ j v, (m.cells.toList)[j]? = some v → w.cell? (q.add j) = some v) : (loadVar 29 q).run Tryz.prog w = .ok (.agg m.cells) w := by
  have hl : (loadCells q 25).run Tryz.prog w = .ok m.cells w := by
    have := run_loadCells_list (P := Tryz.prog) w q m.cells.toList h
    rw [show m.cells.toList.length = 25 from rfl] at this
    rw [this]
  have hagg : (isAgg 29).run Tryz.prog w = .ok true w := by go_simp
  have hsz : (sizeOf 29).run Tryz.prog w = .ok 25 w := by go_simp
  simp only [loadVar, Sem.run_bind, hagg, Result.andThen_ok, if_true, hsz, hl, Sem.run_pure]
theorem ex_loadA {o : Oper} {ρ : Operand → Value} {x : Operand} {q : Addr} {m : M} {w : World} (ho : o.op = .load 29 x) (hx : ρ x = .pointer (some q)) (h : ∀ j v, (m.cells.toList)[j]? = some v → w.cell? (q.add j) = some v) :
    (execOp ρ o).run Tryz.prog w = .ok (.value (.agg m.cells)) w := by
  unfold execOp
  simp only [ho, hx, Instr.loadAt, Instr.sureAddr, Sem.run_bind, Sem.run_pure, Result.andThen_ok, loadVarA h]
end Go.Proofs.YtfegdblaohhdoaaGreatDoor.All
namespace Go.Proofs.YtfegdblaohhdoaaGreatDoor.Ap
open Go.ChangeShapes Go.WideShapes Go.ChangeAt Go.RowKit
open Go.Proofs.YtfegdblaohhdoaaGreatDoor.Ms
open Go.Proofs.YtfegdblaohhdoaaGreatDoor.Box
open Go.Proofs.YtfegdblaohhdoaaGreatDoor.All
set_option linter.unusedVariables false
set_option maxRecDepth 100000
set_option maxRecDepth 100000

theorem build_one (m : M) (w : World) : (Instr.buildSlice 39 1 #[(0, .agg m.cells)]).run Tryz.prog w = .ok (.slice (some ⟨w.heap.size, 0, none⟩) 1 1) (w.alloc (.cells m.cells 29)) := by
  kernel_rfl
theorem ex_bs {o : Oper} {ρ : Operand → Value} {x : Operand} {m : M} {w : World} (ho : o.op = .buildSlice 39 1 #[(0, x)]) (hx : ρ x = .agg m.cells) :
    (execOp ρ o).run Tryz.prog w = .ok (.value (.slice (some ⟨w.heap.size, 0, none⟩) 1 1)) (w.alloc (.cells m.cells 29)) := by
  have e : ((#[(0, x)] : Array (Nat × Operand)).map fun (i, x) => (i, ρ x)) = #[(0, .agg m.cells)] := by simp [hx]
  unfold execOp
  simp only [ho, Sem.run_bind, e, build_one, Result.andThen_ok, Sem.run_pure]
theorem bs_one {ops : Array Oper} {rest : List Oper} {o : Oper} {a : Act} {w : World} {Q : Exit → Act → World → Prop} (hgd : o.guard = none) (x : Operand) (ho : o.op = .buildSlice 39 1 #[(0, x)])
    {m : M} (hx : a.eval x = .agg m.cells) (h : wpList Tryz.prog ops Q rest (a.put o.dst (.slice (some ⟨w.heap.size, 0, none⟩) 1 1)) (w.alloc (.cells m.cells 29))) : wpList Tryz.prog ops Q (o :: rest) a w :=
  wpList_plain hgd fun K hK => by
    unfold Oper.wp
    rw [ex_bs ho hx]
    exact hK _ _ h
theorem add_at (g o j : Nat) : (⟨g, o, none⟩ : Addr).add j = ⟨g, o + j, none⟩ := by
  unfold Addr.add
  split
  · rename_i h; rw [h]; rfl
  · rfl
/-- The cells of a list of messages. -/
def rowC (l : List M) : List Value := l.flatMap fun m => m.cells.toList
theorem rowC_len (l : List M) : (rowC l).length = l.length * 25 := by
  induction l with
  | nil => rfl
  | cons m l ih =>
    have : rowC (m :: l) = m.cells.toList ++ rowC l := by simp [rowC]
    rw [this, List.length_append, ih, List.length_cons]
    have : m.cells.toList.length = 25 := rfl
    omega
theorem rowC_at : ∀ (l : List M) (i j : Nat) (h : i < l.length), j < 25 → (rowC l)[i * 25 + j]? = (l[i].cells.toList)[j]?
  | [], i, j, h, _ => absurd h (by simp)
  | m :: l, 0, j, h, hj => by
    have : rowC (m :: l) = m.cells.toList ++ rowC l := by simp [rowC]
    rw [this, Nat.zero_mul, Nat.zero_add, List.getElem?_append_left (by show j < m.cells.toList.length; exact hj)]
    rfl
  | m :: l, i + 1, j, h, hj => by
    have e : rowC (m :: l) = m.cells.toList ++ rowC l := by simp [rowC]
    have hl : m.cells.toList.length = 25 := rfl
    rw [e, List.getElem?_append_right (by rw [hl]; omega), hl, show (i + 1) * 25 + j - 25 = i * 25 + j by omega, rowC_at l i j (by simpa using h) hj]
    rfl
theorem infoA : ∃ i, Tryz.prog.info? 29 = some i ∧ i.zero = some (.agg M.zero.cells) ∧ i.size = 25 ∧ i.bytes ≤ 4096 := by
  have h : (Tryz.prog.info? 29).map (fun i => (i.zero, i.size, decide (i.bytes ≤ 4096))) = some (some (.agg M.zero.cells), 25, true) := by kernel_rfl
  obtain ⟨i, hi, hz⟩ := Option.map_eq_some_iff.1 h
  simp only [Prod.mk.injEq, decide_eq_true_eq] at hz
  exact ⟨i, hi, hz⟩

/-- The call's own list of the messages l (what is new begins at block B). -/
def Lst (B : Nat) (w : World) (v : Value) (l : List M) : Prop := w.ownsRow B 29 25 v l.length (rowC l)
theorem Lst.nil (B : Nat) (w : World) : Lst B w (.slice none 0 0) [] := World.ownsRow_nil w B _ 25
theorem Lst.below {B : Nat} {w w' : World} {v : Value} {l : List M} (h : Lst B w v l) (hb : Below w.heap.size w w') : Lst B w' v l := by
  refine ⟨h.1, ?_⟩
  rcases h.2 with h | ⟨g, cap, cur, a, b, c, d⟩
  · exact .inl h
  · exact .inr ⟨g, cap, cur, a, b, (hb.block g (Array.getElem?_eq_some_iff.1 c).1).trans c, d⟩
theorem Lst.slice {B : Nat} {w : World} {v : Value} {l : List M} (h : Lst B w v l) : ∃ a c, v = .slice a l.length c := by
  rcases h.2 with ⟨hv, h0⟩ | ⟨g, cap, cur, hv, _⟩
  · exact ⟨none, 0, by rw [hv, h0]⟩
  · exact ⟨_, _, hv⟩
theorem cells_new (m : M) (w : World) : ∀ j u, (m.cells.toList)[j]? = some u → (w.alloc (.cells m.cells 29)).cell? ((⟨w.heap.size, 0, none⟩ : Addr).add j) = some u := by
  intro j u hu
  have := (Bx.new w m).cell j u (by simpa using hu)
  rw [add_at, Nat.zero_add]
  exact this

end Go.Proofs.YtfegdblaohhdoaaGreatDoor.Ap
namespace Go.Proofs.YtfegdblaohhdoaaGreatDoor.Hy
open Go.ChangeShapes Go.WideShapes Go.ChangeAt Go.RowKit
open Go.Proofs.YtfegdblaohhdoaaGreatDoor.Ms
set_option linter.unusedVariables false
set_option maxRecDepth 100000
set_option maxRecDepth 100000
section
variable {P : Program} {ops : Array Oper} {Q : Exit → Act → World → Prop} {md : Region.Mode} {S : World → Prop}
theorem H.one {i : Nat} {o : Oper} {fuel : Nat} {listed : Array Bool} {a : Act} {w : World}
    (ho : ops[i]? = some o) (hw : Region.wanted o (yielded ops a.tmps) = true) (hr : Region.ready md ops listed = [i])
    (h : ∀ K : Act → World → Prop, Hid (∀ a' w', S w' → wpAnyH P md ops Q S fuel (listed.setIfInBounds i true) a' w' → K a' w') → Oper.wp P o a w K Q) : wpAnyH P md ops Q S (fuel + 1) listed a w := by
  refine wpAnyH_ready (rs := [i]) hr (by simp) ?_
  refine AllReadyH.cons ho (fun K hK => ?_) AllReadyH.nil
  rw [if_pos hw]
  exact h K (Lib.hid (fun a' w' hS hW => hK.out a' w' hS (fun _ => hW)))
theorem H.two {i j : Nat} {o o' : Oper} {fuel : Nat} {listed : Array Bool} {a : Act} {w : World}
    (ho : ops[i]? = some o) (hw : Region.wanted o (yielded ops a.tmps) = true) (ho' : ops[j]? = some o') (hw' : Region.wanted o' (yielded ops a.tmps) = true) (hr : Region.ready md ops listed = [i, j])
    (h : ∀ K : Act → World → Prop, Hid (∀ a' w', S w' → wpAnyH P md ops Q S fuel (listed.setIfInBounds i true) a' w' → K a' w') → Oper.wp P o a w K Q)
    (h' : ∀ K : Act → World → Prop, Hid (∀ a' w', S w' → wpAnyH P md ops Q S fuel (listed.setIfInBounds j true) a' w' → K a' w') → Oper.wp P o' a w K Q) : wpAnyH P md ops Q S (fuel + 1) listed a w := by
  refine wpAnyH_ready (rs := [i, j]) hr (by simp) ?_
  refine AllReadyH.cons ho (fun K hK => ?_) (AllReadyH.cons ho' (fun K hK => ?_) AllReadyH.nil)
  · rw [if_pos hw]
    exact h K (Lib.hid (fun a' w' hS hW => hK.out a' w' hS (fun _ => hW)))
  · rw [if_pos hw']
    exact h' K (Lib.hid (fun a' w' hS hW => hK.out a' w' hS (fun _ => hW)))
theorem wp_valW {o : Oper} {a : Act} {w w' : World} {K : Act → World → Prop} {d : Nat} {v : Value} (hd : o.dst = some d) (hy : (execOp a.eval o).run P w = .ok (.value v) w') (h : K (a.put (some d) v) w') : Oper.wp P o a w K Q := by
  unfold Oper.wp
  rw [hy]
  simp only [Oper.upon, hd]
  exact h
end
end Go.Proofs.YtfegdblaohhdoaaGreatDoor.Hy
namespace Go.Proofs.YtfegdblaohhdoaaGreatDoor.Tl
open Go.ChangeShapes Go.WideShapes Go.ChangeAt Go.RowKit
open Go.Proofs.YtfegdblaohhdoaaGreatDoor.F1
open Go.Proofs.YtfegdblaohhdoaaGreatDoor.Bk (Bk Sh)
open Go.Proofs.YtfegdblaohhdoaaGreatDoor.Hy (H.one)
set_option linter.unusedVariables false
set_option maxRecDepth 100000
set_option maxRecDepth 100000

/-- The TLVs of a list stand in w. -/
def TRow (w : World) (a : Option Addr) (l : List T) : Prop :=
  ∀ i (h : i < l.length), ∃ p, a = some p ∧ p.block < w.heap.size ∧ w.cell? (p.add (i * 3)) = some (.int .i64 l[i].2.2) ∧ w.cell? ((p.add (i * 3)).add 1) = some (.int .i64 l[i].1) ∧ w.cell? ((p.add (i * 3)).add 2) = some (.string l[i].2.1)
theorem add_block (p : Addr) (n : Nat) : (p.add n).block = p.block := by unfold Addr.add; split <;> rfl
theorem TRow.below {w w' : World} {a : Option Addr} {l : List T} (h : TRow w a l) (hb : Below w.heap.size w w') : TRow w' a l := by
  intro i hi
  obtain ⟨p, h1, h2, h3, h4, h5⟩ := h i hi
  refine ⟨p, h1, Nat.lt_of_lt_of_le h2 hb.size, ?_, ?_, ?_⟩
  · rw [hb.cell (by rw [add_block]; exact h2)]; exact h3
  · rw [hb.cell (by rw [add_block, add_block]; exact h2)]; exact h4
  · rw [hb.cell (by rw [add_block, add_block]; exact h2)]; exact h5
/-- A TLV's cells. -/
def cellsT (x : T) : Array Value := #[.int .i64 x.2.2, .int .i64 x.1, .string x.2.1]
theorem oneT (x : T) : ((cellsT x).all fun x => x.oneCell') = true := by simp [cellsT, Value.oneCell']
theorem shT : Sh Tryz.prog 62 3 := ⟨_, Tryz.underlying62, by kernel_rfl⟩
theorem build_one (x : T) (w : World) : (Instr.buildSlice 58 1 #[(0, .agg (cellsT x))]).run Tryz.prog w = .ok (.slice (some ⟨w.heap.size, 0, none⟩) 1 1) (w.alloc (.cells (cellsT x) 62)) := by
  kernel_rfl
theorem ex_bs {o : Oper} {ρ : Operand → Value} {x : Operand} {m : T} {w : World} (ho : o.op = .buildSlice 58 1 #[(0, x)]) (hx : ρ x = .agg (cellsT m)) :
    (execOp ρ o).run Tryz.prog w = .ok (.value (.slice (some ⟨w.heap.size, 0, none⟩) 1 1)) (w.alloc (.cells (cellsT m) 62)) := by
  have e : ((#[(0, x)] : Array (Nat × Operand)).map fun (i, x) => (i, ρ x)) = #[(0, .agg (cellsT m))] := by simp [hx]
  unfold execOp
  simp only [ho, Sem.run_bind, e, build_one, Result.andThen_ok, Sem.run_pure]
theorem bs_one {ops : Array Oper} {rest : List Oper} {o : Oper} {a : Act} {w : World} {Q : Exit → Act → World → Prop} (hgd : o.guard = none) (x : Operand) (ho : o.op = .buildSlice 58 1 #[(0, x)])
    {m : T} (hx : a.eval x = .agg (cellsT m)) (h : wpList Tryz.prog ops Q rest (a.put o.dst (.slice (some ⟨w.heap.size, 0, none⟩) 1 1)) (w.alloc (.cells (cellsT m) 62))) : wpList Tryz.prog ops Q (o :: rest) a w :=
  wpList_plain hgd fun K hK => by
    unfold Oper.wp
    rw [ex_bs ho hx]
    exact hK _ _ h
theorem add_at (g o j : Nat) : (⟨g, o, none⟩ : Addr).add j = ⟨g, o + j, none⟩ := by
  unfold Addr.add
  split
  · rename_i h; rw [h]; rfl
  · rfl
/-- The cells of a list of TLVs. -/
def rowT (l : List T) : List Value := l.flatMap fun x => (cellsT x).toList
theorem rowT_snoc (l : List T) (m : T) : rowT (l ++ [m]) = rowT l ++ (cellsT m).toList := by simp [rowT]
theorem rowT_at : ∀ (l : List T) (i j : Nat) (h : i < l.length), j < 3 → (rowT l)[i * 3 + j]? = ((cellsT l[i]).toList)[j]?
  | [], i, j, h, _ => absurd h (by simp)
  | m :: l, 0, j, h, hj => by
    have : rowT (m :: l) = (cellsT m).toList ++ rowT l := by simp [rowT]
    rw [this, Nat.zero_mul, Nat.zero_add, List.getElem?_append_left (by show j < (cellsT m).toList.length; exact hj)]
    rfl
  | m :: l, i + 1, j, h, hj => by
    have e : rowT (m :: l) = (cellsT m).toList ++ rowT l := by simp [rowT]
    have hl : (cellsT m).toList.length = 3 := rfl
    rw [e, List.getElem?_append_right (by rw [hl]; omega), hl, show (i + 1) * 3 + j - 3 = i * 3 + j by omega, rowT_at l i j (by simpa using h) hj]
    rfl
theorem infoT : ∃ i, Tryz.prog.info? 62 = some i ∧ i.zero = some (.agg #[.int .i64 0, .int .i64 0, .string ByteArray.empty]) ∧ i.size = 3 ∧ i.bytes ≤ 4096 := by
  have h : (Tryz.prog.info? 62).map (fun i => (i.zero, i.size, decide (i.bytes ≤ 4096))) = some (some (.agg #[.int .i64 0, .int .i64 0, .string ByteArray.empty]), 3, true) := by kernel_rfl
  obtain ⟨i, hi, hz⟩ := Option.map_eq_some_iff.1 h
  simp only [Prod.mk.injEq, decide_eq_true_eq] at hz
  exact ⟨i, hi, hz⟩

/-- The call's own list of the TLVs l (what is new begins at block B). -/
def Lst (B : Nat) (w : World) (v : Value) (l : List T) : Prop := w.ownsRow B 62 3 v l.length (rowT l)
theorem Lst.nil (B : Nat) (w : World) : Lst B w (.slice none 0 0) [] := World.ownsRow_nil w B _ 3
theorem Lst.below {B : Nat} {w w' : World} {v : Value} {l : List T} (h : Lst B w v l) (hb : Below w.heap.size w w') : Lst B w' v l := by
  refine ⟨h.1, ?_⟩
  rcases h.2 with h | ⟨g, cap, cur, a, b, c, d⟩
  · exact .inl h
  · exact .inr ⟨g, cap, cur, a, b, (hb.block g (Array.getElem?_eq_some_iff.1 c).1).trans c, d⟩
theorem Lst.slice {B : Nat} {w : World} {v : Value} {l : List T} (h : Lst B w v l) : ∃ a c, v = .slice a l.length c := by
  rcases h.2 with ⟨hv, h0⟩ | ⟨g, cap, cur, hv, _⟩
  · exact ⟨none, 0, by rw [hv, h0]⟩
  · exact ⟨_, _, hv⟩
theorem Lst.row {B : Nat} {w : World} {a : Option Addr} {c : Nat} {l : List T} (h : Lst B w (.slice a l.length c) l) : TRow w a l := by
  intro i hi
  rcases h.2 with ⟨_, h0⟩ | ⟨g, cap, cur, hv, hb, hg, _⟩
  · omega
  · simp at hv
    obtain ⟨rfl, rfl⟩ := hv
    have hat : ∀ j v, j < 3 → ((cellsT l[i]).toList)[j]? = some v → w.cell? (((⟨g, 0, none⟩ : Addr).add (i * 3)).add j) = some v := fun j v hj hv => by
      have := World.ownsRow.cells h (g := g) rfl (i * 3 + j) v (by rw [rowT_at l i j hi hj]; exact hv)
      rw [add_at] at this
      rw [add_at, add_at, Nat.add_assoc]
      exact this
    exact ⟨⟨g, 0, none⟩, rfl, (Array.getElem?_eq_some_iff.1 hg).1, hat 0 _ (by decide) rfl, hat 1 _ (by decide) rfl, hat 2 _ (by decide) rfl⟩

theorem cells_new (m : T) (w : World) : ∀ j u, ((cellsT m).toList)[j]? = some u → (w.alloc (.cells (cellsT m) 62)).cell? ((⟨w.heap.size, 0, none⟩ : Addr).add j) = some u := by
  intro j u hu
  have := (Bk.Bk.new 62 w (cellsT m)).cell j u (by simpa using hu)
  rw [add_at, Nat.zero_add]
  exact this

theorem wp_app {o : Oper} {a : Act} {w : World} {Q : Exit → Act → World → Prop} {K : Act → World → Prop} (s x : Operand)
    (ho : o.op = .call { callee := .builtin .append, args := #[s, x], argTypes := #[58, 58] }) (B : Nat) (v : Value) (l : List T) (m : T) (g c : Nat)
    (hs : a.eval s = v) (hown : Lst B w v l) (hx : a.eval x = .slice (some ⟨g, 0, none⟩) 1 c) (hm : ∀ j u, ((cellsT m).toList)[j]? = some u → w.cell? ((⟨g, 0, none⟩ : Addr).add j) = some u)
    (hl : l.length ≤ 100000) (hB : B ≤ w.heap.size)
    (h : ∀ v' w', Lst B w' v' (l ++ [m]) → w.grownBy w' v.ownBlock → Below B w w' → K (a.put o.dst v') w') : Oper.wp Tryz.prog o a w K Q := by
  obtain ⟨i0, hi, hz, hsz, hby⟩ := infoT
  refine wp_append_own w s x 58 ho B 62 i0 (.agg #[.int .i64 0, .int .i64 0, .string ByteArray.empty]) 3 i0.bytes Tryz.underlying58 hi hz hsz rfl rfl (by decide) v l.length (rowT l) hs hown ⟨g, 0, none⟩ 1 c (cellsT m).toList hx rfl hm ?_ (by unfold maxLen; omega) ?_ hB ?_
  · intro u hu
    have := oneT m
    rw [Array.all_eq_true_iff_forall_mem] at this
    exact this u (by simpa using hu)
  · have : (l.length + 1) * i0.bytes ≤ 100001 * 4096 := Nat.mul_le_mul (by omega) hby
    omega
  · intro v' w' h2 h3 _
    refine h v' w' ?_ h3 ((Below.refl B w).grown h3 hB (fun k hk => (World.ownsRow.lt hown k hk).1))
    unfold Lst
    rw [rowT_snoc, List.length_append]
    exact h2
/-- append(v, m), behind the making of the list of m alone. -/
theorem app_one {ops : Array Oper} {rest : List Oper} {o : Oper} {a : Act} {w : World} {Q : Exit → Act → World → Prop} (hgd : o.guard = none) (s x : Operand)
    (ho : o.op = .call { callee := .builtin .append, args := #[s, x], argTypes := #[58, 58] }) (B : Nat) (v : Value) (l : List T) (m : T) (g c : Nat)
    (hs : a.eval s = v) (hown : Lst B w v l) (hx : a.eval x = .slice (some ⟨g, 0, none⟩) 1 c) (hm : ∀ j u, ((cellsT m).toList)[j]? = some u → w.cell? ((⟨g, 0, none⟩ : Addr).add j) = some u)
    (hl : l.length ≤ 100000) (hB : B ≤ w.heap.size)
    (h : ∀ v' w', Lst B w' v' (l ++ [m]) → w.grownBy w' v.ownBlock → Below B w w' → wpList Tryz.prog ops Q rest (a.put o.dst v') w') : wpList Tryz.prog ops Q (o :: rest) a w :=
  wpList_plain hgd fun K hK => wp_app s x ho B v l m g c hs hown hx hm hl hB fun v' w' h1 h2 h3 => hK _ _ (h v' w' h1 h2 h3)

section
variable {ops : Array Oper} {Q : Exit → Act → World → Prop} {md : Region.Mode} {S : World → Prop}
/-- []api.Tlv{m} -/
theorem H.bsT {i d : Nat} {o : Oper} {fuel : Nat} {listed : Array Bool} {a : Act} {w : World}
    (ho : ops[i]? = some o) (hw : Region.wanted o (yielded ops a.tmps) = true) (hr : Region.ready md ops listed = [i]) (hd : o.dst = some d)
    (x : Operand) (hop : o.op = .buildSlice 58 1 #[(0, x)]) {m : T} (hx : a.eval x = .agg (cellsT m)) (hS : S (w.alloc (.cells (cellsT m) 62)))
    (h : wpAnyH Tryz.prog md ops Q S fuel (listed.setIfInBounds i true) (a.put (some d) (.slice (some ⟨w.heap.size, 0, none⟩) 1 1)) (w.alloc (.cells (cellsT m) 62))) : wpAnyH Tryz.prog md ops Q S (fuel + 1) listed a w := by
  refine H.one ho hw hr (fun K hK => ?_)
  unfold Oper.wp
  rw [ex_bs hop hx]
  simp only [Oper.upon, hd]
  exact hK.out _ _ hS h
/-- append(v, m), behind the making of the list of m alone. -/
theorem H.appT {i d : Nat} {o : Oper} {fuel : Nat} {listed : Array Bool} {a : Act} {w : World}
    (ho : ops[i]? = some o) (hw : Region.wanted o (yielded ops a.tmps) = true) (hr : Region.ready md ops listed = [i]) (hd : o.dst = some d)
    (s x : Operand) (hop : o.op = .call { callee := .builtin .append, args := #[s, x], argTypes := #[58, 58] }) (B : Nat) (v : Value) (l : List T) (m : T) (g c : Nat)
    (hs : a.eval s = v) (hown : Lst B w v l) (hx : a.eval x = .slice (some ⟨g, 0, none⟩) 1 c) (hm : ∀ j u, ((cellsT m).toList)[j]? = some u → w.cell? ((⟨g, 0, none⟩ : Addr).add j) = some u)
    (hl : l.length ≤ 100000) (hB : B ≤ w.heap.size) (hS : ∀ w', w.grownBy w' v.ownBlock → S w')
    (h : ∀ v' w', Lst B w' v' (l ++ [m]) → w.grownBy w' v.ownBlock → Below B w w' → wpAnyH Tryz.prog md ops Q S fuel (listed.setIfInBounds i true) (a.put (some d) v') w') : wpAnyH Tryz.prog md ops Q S (fuel + 1) listed a w := by
  refine H.one ho hw hr (fun K hK => ?_)
  refine wp_app s x hop B v l m g c hs hown hx hm hl hB fun v' w' h1 h2 h3 => ?_
  rw [hd]
  exact hK.out _ _ (hS w' h2) (h v' w' h1 h2 h3)
end
theorem add_two (p : Addr) : p.add 2 = ⟨p.block, p.off + 2, none⟩ := rfl
theorem indexT (p : Addr) (n c i : Nat) (h : i < n) (W : World) : (Instr.indexAt 58 (.slice (some p) n c) (.int .i64 (i : Int))).run Tryz.prog W = .ok (.pointer (some (p.add (i * 3)))) W := by
  have he : Tryz.prog.elem 58 = 62 := by simp [Program.elem, Tryz.underlying58]
  have hz : (sizeOf 62).run Tryz.prog W = .ok 3 W := by go_simp
  rw [run_indexAt_slice W 58 p n c .i64 (i : Int) (by rw [he]; exact Tryz.underlying58), if_pos (by omega), he, hz]
  rfl
end Go.Proofs.YtfegdblaohhdoaaGreatDoor.Tl
namespace Go.Proofs.YtfegdblaohhdoaaGreatDoor.Open
open Go.ChangeShapes Go.WideShapes Go.ChangeAt Go.RowKit Go.Deep
open Go.Proofs.YtfegdblaohhdoaaGreatDoor.Ms
open Go.Proofs.YtfegdblaohhdoaaGreatDoor.Box
open Go.Proofs.YtfegdblaohhdoaaGreatDoor.Few
open Go.Proofs.YtfegdblaohhdoaaGreatDoor.All
set_option linter.unusedVariables false
set_option maxRecDepth 100000

section
variable {H : Type} {enc : TypeId × Value → H} {W : World}

/-- A struct whose fields take one cell each reads field by field: field j's reading is that of cell j. -/
theorem each_field {t : TypeId} {fds : Array Field} (ht : Tryz.prog.underlying t = some (.struct fds)) (hone : oneCellFields Tryz.prog fds = true) {fuel : Nat} {cs : List Value} {x : DataW H × List MemPlace}
    (h : DataW.trod enc Tryz.prog W 0 (fun _ => true) true fuel t cs = some x) :
    cs.length = Tryz.prog.cellsOf t ∧ ∃ n, ∀ (j : Nat) (f : Field), fds[j]? = some f → ∃ y, DataW.trod enc Tryz.prog W 0 (fun _ => true) true n f.type ((cs.drop j).take 1) = some y := by
  obtain ⟨xs, n, _, _, hlen, hxl, hf⟩ := DataW.trod_struct ht h
  refine ⟨hlen, n, fun j f hj => ?_⟩
  have h1 := hf j f hj
  rw [(hone_of hone j f hj).1, (hone_of hone j f hj).2] at h1
  have hjl : j < xs.length := by rw [hxl]; exact (Array.getElem?_eq_some_iff.1 hj).1
  exact ⟨xs[j], h1.trans (List.getElem?_eq_getElem hjl)⟩

theorem els {α : Type} {n : Nat} {R : Nat → α → Prop} (h : ∀ i, i < n → ∃ x, R i x) : ∃ l : List α, l.length = n ∧ ∀ i (hi : i < l.length), R i l[i] := by
  induction n with
  | zero => exact ⟨[], rfl, fun i hi => absurd hi (by simp)⟩
  | succ n ih =>
    obtain ⟨l, hl, hr⟩ := ih fun i hi => h i (by omega)
    obtain ⟨x, hx⟩ := h n (by omega)
    refine ⟨l ++ [x], by simp [hl], fun i hi => ?_⟩
    by_cases hin : i < l.length
    · rw [List.getElem_append_left hin]; exact hr i hin
    · obtain rfl : i = l.length := by simp at hi; omega
      rw [List.getElem_append_right (Nat.le_refl _)]
      simp only [Nat.sub_self, List.getElem_cons_zero]
      rw [hl]; exact hx

theorem open_dests {fuel : Nat} {cs : List Value} {x : DataW H × List MemPlace} (h : DataW.trod enc Tryz.prog W 0 (fun _ => true) true fuel 26 cs = some x) :
    ∃ (a : Option Addr) (l : List El) (c : Nat), cs = [.slice a l.length c] ∧ DRow W a l ∧ l.length ≤ 9223372036854775807 := by
  have hz : Tryz.prog.cellsOf 44 = 2 := by kernel_rfl
  rcases open_slice Tryz.underlying26 h with h0 | ⟨a, len, cap, m, n, D, Pl, hcs, _, hl, hm, hmm, _, hi⟩
  · exact ⟨none, [], 0, h0.1, DRow.nil _ _, by simp⟩
  · obtain ⟨l, hll, hr⟩ := els (n := len) (R := fun i (x : El) => W.cell? (a.add (i * 2)) = some (.string x.1) ∧ W.cell? ((a.add (i * 2)).add 1) = some (.int .i64 x.2)) (fun i hin => by
      obtain ⟨ds, hc, ht⟩ := hi i (by rw [hmm]; split <;> omega)
      rw [hz] at hc
      obtain ⟨hlen, k, hf⟩ := each_field Tryz.underlying44 (by kernel_rfl) ht
      rw [hz] at hlen
      obtain ⟨_, _, hat⟩ := World.cells?_some hc
      have e0 := hat 0 (by decide)
      have e1 := hat 1 (by decide)
      match ds, hlen with
      | [d0, d1], _ =>
        obtain ⟨y0, g0⟩ := hf 0 _ rfl
        obtain ⟨y1, g1⟩ := hf 1 _ rfl
        obtain ⟨u0, q0, _, _⟩ := DataW.trod_string Tryz.underlying9 (show DataW.trod enc Tryz.prog W 0 (fun _ => true) true k 9 [d0] = some y0 from g0)
        obtain ⟨u1, q1, _, _⟩ := DataW.trod_int Tryz.underlying3 (show DataW.trod enc Tryz.prog W 0 (fun _ => true) true k 3 [d1] = some y1 from g1)
        obtain rfl := (List.cons.inj q0).1
        obtain rfl := (List.cons.inj q1).1
        exact ⟨(u0, u1), e0, e1⟩)
    refine ⟨some a, l, cap, by rw [hll]; exact hcs, fun i hin => ⟨a, rfl, ?_, hr i hin⟩, by unfold maxLen at hm; omega⟩
    have := block_lt_of_cell (hr i hin).1
    rwa [add_block] at this
theorem open_subs {fuel : Nat} {cs : List Value} {x : DataW H × List MemPlace} (h : DataW.trod enc Tryz.prog W 0 (fun _ => true) true fuel 27 cs = some x) :
    ∃ (a : Option Addr) (l : List El) (c : Nat), cs = [.slice a l.length c] ∧ SRow W a l ∧ l.length ≤ 9223372036854775807 := by
  have hz : Tryz.prog.cellsOf 46 = 2 := by kernel_rfl
  rcases open_slice Tryz.underlying27 h with h0 | ⟨a, len, cap, m, n, D, Pl, hcs, _, hl, hm, hmm, _, hi⟩
  · exact ⟨none, [], 0, h0.1, SRow.nil _ _, by simp⟩
  · obtain ⟨l, hll, hr⟩ := els (n := len) (R := fun i (x : El) => W.cell? (a.add (i * 2)) = some (.int .i64 x.2) ∧ W.cell? ((a.add (i * 2)).add 1) = some (.string x.1)) (fun i hin => by
      obtain ⟨ds, hc, ht⟩ := hi i (by rw [hmm]; split <;> omega)
      rw [hz] at hc
      obtain ⟨hlen, k, hf⟩ := each_field Tryz.underlying46 (by kernel_rfl) ht
      rw [hz] at hlen
      obtain ⟨_, _, hat⟩ := World.cells?_some hc
      have e0 := hat 0 (by decide)
      have e1 := hat 1 (by decide)
      match ds, hlen with
      | [d0, d1], _ =>
        obtain ⟨y0, g0⟩ := hf 0 _ rfl
        obtain ⟨y1, g1⟩ := hf 1 _ rfl
        obtain ⟨u0, q0, _, _⟩ := DataW.trod_int Tryz.underlying3 (show DataW.trod enc Tryz.prog W 0 (fun _ => true) true k 3 [d0] = some y0 from g0)
        obtain ⟨u1, q1, _, _⟩ := DataW.trod_string Tryz.underlying9 (show DataW.trod enc Tryz.prog W 0 (fun _ => true) true k 9 [d1] = some y1 from g1)
        obtain rfl := (List.cons.inj q0).1
        obtain rfl := (List.cons.inj q1).1
        exact ⟨(u1, u0), e0, e1⟩)
    refine ⟨some a, l, cap, by rw [hll]; exact hcs, fun i hin => ⟨a, rfl, ?_, hr i hin⟩, by unfold maxLen at hm; omega⟩
    have := block_lt_of_cell (hr i hin).1
    rwa [add_block] at this

theorem cellsM : Tryz.prog.cellsOf 29 = 25 := by kernel_rfl

set_option maxHeartbeats 1600000 in
theorem open_msg {fuel : Nat} {cs : List Value} {x : DataW H × List MemPlace} (h : DataW.trod enc Tryz.prog W 0 (fun _ => true) true fuel 29 cs = some x) :
    ∃ m : M, cs = m.cells.toList ∧ DRow W m.la m.ll ∧ SRow W m.sa m.sl := by
  obtain ⟨hlen, n, go⟩ := each_field Tryz.underlying29 (by kernel_rfl) h
  rw [cellsM] at hlen
  clear h
  match cs, hlen with
  | [c0, c1, c2, c3, c4, c5, c6, c7, c8, c9, c10, c11, c12, c13, c14, c15, c16, c17, c18, c19, c20, c21, c22, c23, c24], _ =>
    obtain ⟨y0, h0⟩ := go 0 _ rfl
    obtain ⟨k0, e0, _, _⟩ := DataW.trod_int Tryz.underlying3 (show DataW.trod enc Tryz.prog W 0 (fun _ => true) true n 3 [c0] = some y0 from h0)
    obtain rfl := (List.cons.inj e0).1
    clear e0
    obtain ⟨y1, h1⟩ := go 1 _ rfl
    obtain ⟨k1, e1, _, _⟩ := DataW.trod_int Tryz.underlying3 (show DataW.trod enc Tryz.prog W 0 (fun _ => true) true n 3 [c1] = some y1 from h1)
    obtain rfl := (List.cons.inj e1).1
    clear e1
    obtain ⟨y2, h2⟩ := go 2 _ rfl
    obtain ⟨k2, e2, _, _⟩ := DataW.trod_int Tryz.underlying3 (show DataW.trod enc Tryz.prog W 0 (fun _ => true) true n 3 [c2] = some y2 from h2)
    obtain rfl := (List.cons.inj e2).1
    clear e2
    obtain ⟨y3, h3⟩ := go 3 _ rfl
    obtain ⟨k3, e3, _, _⟩ := DataW.trod_string Tryz.underlying9 (show DataW.trod enc Tryz.prog W 0 (fun _ => true) true n 9 [c3] = some y3 from h3)
    obtain rfl := (List.cons.inj e3).1
    clear e3
    obtain ⟨y4, h4⟩ := go 4 _ rfl
    obtain ⟨k4, e4, _, _⟩ := DataW.trod_int Tryz.underlying3 (show DataW.trod enc Tryz.prog W 0 (fun _ => true) true n 3 [c4] = some y4 from h4)
    obtain rfl := (List.cons.inj e4).1
    clear e4
    obtain ⟨y5, h5⟩ := go 5 _ rfl
    obtain ⟨k5, e5, _, _⟩ := DataW.trod_int Tryz.underlying3 (show DataW.trod enc Tryz.prog W 0 (fun _ => true) true n 3 [c5] = some y5 from h5)
    obtain rfl := (List.cons.inj e5).1
    clear e5
    obtain ⟨y6, h6⟩ := go 6 _ rfl
    obtain ⟨k6, e6, _, _⟩ := DataW.trod_string Tryz.underlying9 (show DataW.trod enc Tryz.prog W 0 (fun _ => true) true n 9 [c6] = some y6 from h6)
    obtain rfl := (List.cons.inj e6).1
    clear e6
    obtain ⟨y7, h7⟩ := go 7 _ rfl
    obtain ⟨k7, e7, _, _⟩ := DataW.trod_int Tryz.underlying3 (show DataW.trod enc Tryz.prog W 0 (fun _ => true) true n 3 [c7] = some y7 from h7)
    obtain rfl := (List.cons.inj e7).1
    clear e7
    obtain ⟨y8, h8⟩ := go 8 _ rfl
    obtain ⟨k8, e8, _, _⟩ := DataW.trod_int Tryz.underlying3 (show DataW.trod enc Tryz.prog W 0 (fun _ => true) true n 3 [c8] = some y8 from h8)
    obtain rfl := (List.cons.inj e8).1
    clear e8
    obtain ⟨y9, h9⟩ := go 9 _ rfl
    obtain ⟨k9, e9, _, _⟩ := DataW.trod_string Tryz.underlying9 (show DataW.trod enc Tryz.prog W 0 (fun _ => true) true n 9 [c9] = some y9 from h9)
    obtain rfl := (List.cons.inj e9).1
    clear e9
    obtain ⟨y10, h10⟩ := go 10 _ rfl
    obtain ⟨k10, e10, _, _⟩ := DataW.trod_int Tryz.underlying3 (show DataW.trod enc Tryz.prog W 0 (fun _ => true) true n 3 [c10] = some y10 from h10)
    obtain rfl := (List.cons.inj e10).1
    clear e10
    obtain ⟨y11, h11⟩ := go 11 _ rfl
    obtain ⟨k11, e11, _, _⟩ := DataW.trod_string Tryz.underlying9 (show DataW.trod enc Tryz.prog W 0 (fun _ => true) true n 9 [c11] = some y11 from h11)
    obtain rfl := (List.cons.inj e11).1
    clear e11
    obtain ⟨y12, h12⟩ := go 12 _ rfl
    obtain ⟨k12, e12, _, _⟩ := DataW.trod_int Tryz.underlying3 (show DataW.trod enc Tryz.prog W 0 (fun _ => true) true n 3 [c12] = some y12 from h12)
    obtain rfl := (List.cons.inj e12).1
    clear e12
    obtain ⟨y13, h13⟩ := go 13 _ rfl
    obtain ⟨k13, e13, _, _⟩ := DataW.trod_int Tryz.underlying3 (show DataW.trod enc Tryz.prog W 0 (fun _ => true) true n 3 [c13] = some y13 from h13)
    obtain rfl := (List.cons.inj e13).1
    clear e13
    obtain ⟨y14, h14⟩ := go 14 _ rfl
    obtain ⟨k14, e14, _, _⟩ := DataW.trod_int Tryz.underlying3 (show DataW.trod enc Tryz.prog W 0 (fun _ => true) true n 3 [c14] = some y14 from h14)
    obtain rfl := (List.cons.inj e14).1
    clear e14
    obtain ⟨y15, h15⟩ := go 15 _ rfl
    obtain ⟨k15, e15, _, _⟩ := DataW.trod_int Tryz.underlying3 (show DataW.trod enc Tryz.prog W 0 (fun _ => true) true n 3 [c15] = some y15 from h15)
    obtain rfl := (List.cons.inj e15).1
    clear e15
    obtain ⟨y16, h16⟩ := go 16 _ rfl
    obtain ⟨k16, e16, _, _⟩ := DataW.trod_int Tryz.underlying3 (show DataW.trod enc Tryz.prog W 0 (fun _ => true) true n 3 [c16] = some y16 from h16)
    obtain rfl := (List.cons.inj e16).1
    clear e16
    obtain ⟨y17, h17⟩ := go 17 _ rfl
    obtain ⟨k17, e17, _, _⟩ := DataW.trod_int Tryz.underlying3 (show DataW.trod enc Tryz.prog W 0 (fun _ => true) true n 3 [c17] = some y17 from h17)
    obtain rfl := (List.cons.inj e17).1
    clear e17
    obtain ⟨y18, h18⟩ := go 18 _ rfl
    obtain ⟨k18, e18, _, _⟩ := DataW.trod_int Tryz.underlying3 (show DataW.trod enc Tryz.prog W 0 (fun _ => true) true n 3 [c18] = some y18 from h18)
    obtain rfl := (List.cons.inj e18).1
    clear e18
    obtain ⟨y19, h19⟩ := go 19 _ rfl
    obtain ⟨k19, e19, _, _⟩ := DataW.trod_string Tryz.underlying9 (show DataW.trod enc Tryz.prog W 0 (fun _ => true) true n 9 [c19] = some y19 from h19)
    obtain rfl := (List.cons.inj e19).1
    clear e19
    obtain ⟨y20, h20⟩ := go 20 _ rfl
    obtain ⟨k20, e20, _, _⟩ := DataW.trod_string Tryz.underlying9 (show DataW.trod enc Tryz.prog W 0 (fun _ => true) true n 9 [c20] = some y20 from h20)
    obtain rfl := (List.cons.inj e20).1
    clear e20
    obtain ⟨y21, h21⟩ := go 21 _ rfl
    obtain ⟨a21, l21, n21, e21, r21, _⟩ := open_dests (show DataW.trod enc Tryz.prog W 0 (fun _ => true) true n 26 [c21] = some y21 from h21)
    obtain rfl := (List.cons.inj e21).1
    clear e21
    obtain ⟨y22, h22⟩ := go 22 _ rfl
    obtain ⟨k22, e22, _, _⟩ := DataW.trod_int Tryz.underlying3 (show DataW.trod enc Tryz.prog W 0 (fun _ => true) true n 3 [c22] = some y22 from h22)
    obtain rfl := (List.cons.inj e22).1
    clear e22
    obtain ⟨y23, h23⟩ := go 23 _ rfl
    obtain ⟨k23, e23, _, _⟩ := DataW.trod_string Tryz.underlying9 (show DataW.trod enc Tryz.prog W 0 (fun _ => true) true n 9 [c23] = some y23 from h23)
    obtain rfl := (List.cons.inj e23).1
    clear e23
    obtain ⟨y24, h24⟩ := go 24 _ rfl
    obtain ⟨a24, l24, n24, e24, r24, _⟩ := open_subs (show DataW.trod enc Tryz.prog W 0 (fun _ => true) true n 27 [c24] = some y24 from h24)
    obtain rfl := (List.cons.inj e24).1
    clear e24
    exact ⟨⟨k0, k1, k2, k3, k4, k5, k6, k7, k8, k9, k10, k11, k12, k13, k14, k15, k16, k17, k18, k19, k20, a21, l21, n21, k22, k23, a24, l24, n24⟩, rfl, r21, r24⟩

theorem laidOut : laidOutB Tryz.prog = true := by kernel_rfl
theorem again {t : TypeId} (hr : Tryz.prog.readableRec t = true) (hrow : t < Tryz.prog.types.size) {W' : World} {v : Value} {d : DataW H} {ps : List MemPlace}
    (h : DataW.Trod enc Tryz.prog W 0 (fun _ => true) true t v d ps) (hb : Below W.heap.size W W') (hlt : ∀ x ∈ ps, x.block < W.heap.size) :
    DataW.Trod enc Tryz.prog W' 0 (fun b => decide (b < W.heap.size)) true t v d ps := Below.trod laidOut hr hrow h hb hlt
end
end Go.Proofs.YtfegdblaohhdoaaGreatDoor.Open
namespace Go.Proofs.YtfegdblaohhdoaaGreatDoor.Kb
open Go.ChangeShapes Go.WideShapes Go.ChangeAt Go.RowKit Go.Joins
open Go.Proofs.YtfegdblaohhdoaaGreatDoor.Ms
open Go.Proofs.YtfegdblaohhdoaaGreatDoor.Box
open Go.Proofs.YtfegdblaohhdoaaGreatDoor.All
open Go.Proofs.YtfegdblaohhdoaaGreatDoor.An
open Go.Proofs.YtfegdblaohhdoaaGreatDoor.K1
open Go.Proofs.YtfegdblaohhdoaaGreatDoor.F1 (T)
open Go.Proofs.YtfegdblaohhdoaaGreatDoor.Ap (add_at cells_new)
open Go.Proofs.YtfegdblaohhdoaaGreatDoor.Tl (cellsT TRow)
open Go.Proofs.YtfegdblaohhdoaaGreatDoor.Open (each_field els open_msg)
open Go.Proofs.YtfegdblaohhdoaaGreatDoor.Bk (Bk Sh alloc_size wpList_loadK wpList_storeK run_loadK)
open Go.Deep
set_option linter.unusedVariables false
set_option maxRecDepth 100000
set_option maxRecDepth 100000
theorem shX : Sh Tryz.prog 25 7 := ⟨_, Tryz.underlying25, by kernel_rfl⟩
theorem oneX (x : Kx) : (x.cells.all fun x => x.oneCell') = true := by simp [Kx.cells, Value.oneCell']
theorem wpList_loadX {ops : Array Oper} {rest : List Oper} {o : Oper} {a : Act} {w : World} {Q : Exit → Act → World → Prop} (hgd : o.guard = none) (x : Operand) (ho : o.op = .load 25 x) {b : Nat} (hx : a.eval x = .pointer (some ⟨b, 0, none⟩)) {m : Kx} (hb : Bk 25 w b m.cells)
    (h : wpList Tryz.prog ops Q rest (a.put o.dst (.agg m.cells)) w) : wpList Tryz.prog ops Q (o :: rest) a w := wpList_loadK shX hgd x ho hx hb rfl h
theorem wpList_storeX {ops : Array Oper} {rest : List Oper} {o : Oper} {a : Act} {w : World} {Q : Exit → Act → World → Prop} (hgd : o.guard = none) (x y : Operand) (ho : o.op = .store 25 x y) {b : Nat} (hx : a.eval x = .pointer (some ⟨b, 0, none⟩)) {m m' : Kx} (hy : a.eval y = .agg m'.cells) (hb : Bk 25 w b m.cells)
    (h : wpList Tryz.prog ops Q rest (a.put o.dst undef) (w.setRow b m'.cells)) : wpList Tryz.prog ops Q (o :: rest) a w := wpList_storeK shX hgd x y ho hx hy hb rfl rfl (oneX m') h

/-- What is the same as itself. -/
theorem eq_arr {P : Program} {W : World} (d : Nat) (t e : TypeId) (n : Nat) (xs : Array Value) (ht : P.underlying t = some (.array n e))
    (hz : (sizeOf e).run P W = .ok 1 W) (hx : ∀ i, i < n → ∃ a, (part e xs i).run P W = .ok a W ∧ (Op.equalIn d e a a).run P W = .ok true W) : (Op.equalIn (d + 1) t (.agg xs) (.agg xs)).run P W = .ok true W := by
  simp only [Op.equalIn, Sem.run_bind, run_underlying ht, Result.andThen_ok, hz]
  rw [Std.Legacy.Range.forIn_eq_forIn_range']
  simp only [Std.Legacy.Range.size, Nat.sub_zero, Nat.add_one_sub_one, Nat.div_one]
  have hl : ∀ i ∈ List.range' 0 n 1, i < n := fun i hi => by simp at hi; exact hi
  generalize List.range' 0 n 1 = l at *
  induction l with
  | nil => simp
  | cons i l ih =>
    obtain ⟨a, ha, hq⟩ := hx i (hl i (by simp))
    simp only [List.forIn_cons, Sem.run_bind, Nat.mul_one, ha, Result.andThen_ok, hq, Bool.not_true, Bool.false_eq_true, if_false, Sem.run_pure]
    have := ih (fun j hj => hl j (by simp [hj]))
    simp only [Nat.mul_one] at this
    exact this
theorem eqF_same {P : Program} {W : World} {d : Nat} {f : Field} {fs : List Field} {xs : Array Value} {a : Value} {r : Bool} (hn : f.name ≠ "_")
    (hx : (part f.type xs f.offset).run P W = .ok a W) (hq : (Op.equalIn d f.type a a).run P W = .ok true W) (h : (Op.eqFields d xs xs fs).run P W = .ok r W) :
    (Op.eqFields d xs xs (f :: fs)).run P W = .ok r W := by
  simp only [Op.eqFields, ne_eq, hn, not_false_eq_true, if_true, Sem.run_bind, hx, Result.andThen_ok, hq, Bool.not_true, Bool.false_eq_true, if_false, h]
theorem size_str (W : World) : (sizeOf 9).run Tryz.prog W = .ok 1 W := by go_simp
theorem eq_four (d : Nat) (a b c e : ByteArray) (W : World) : (Op.equalIn (d + 2) 22 (.agg #[.string a, .string b, .string c, .string e]) (.agg #[.string a, .string b, .string c, .string e])).run Tryz.prog W = .ok true W := by
  refine eq_arr (d + 1) 22 9 4 _ Tryz.underlying22 (size_str W) fun i hi => ?_
  have hs : ∀ x, (Op.equalIn (d + 1) 9 (.string x) (.string x)).run Tryz.prog W = .ok true W := fun x => by rw [run_equalIn_string W d 9 x x Tryz.underlying9]; simp
  rcases (show i = 0 ∨ i = 1 ∨ i = 2 ∨ i = 3 by omega) with rfl | rfl | rfl | rfl
  · exact ⟨_, rfl, hs a⟩
  · exact ⟨_, rfl, hs b⟩
  · exact ⟨_, rfl, hs c⟩
  · exact ⟨_, rfl, hs e⟩
theorem eq_two (d : Nat) (a b : ByteArray) (W : World) : (Op.equalIn (d + 2) 23 (.agg #[.string a, .string b]) (.agg #[.string a, .string b])).run Tryz.prog W = .ok true W := by
  refine eq_arr (d + 1) 23 9 2 _ Tryz.underlying23 (size_str W) fun i hi => ?_
  have hs : ∀ x, (Op.equalIn (d + 1) 9 (.string x) (.string x)).run Tryz.prog W = .ok true W := fun x => by rw [run_equalIn_string W d 9 x x Tryz.underlying9]; simp
  rcases (show i = 0 ∨ i = 1 by omega) with rfl | rfl
  · exact ⟨_, rfl, hs a⟩
  · exact ⟨_, rfl, hs b⟩
theorem eqX (c : Kx) (W : World) : (Op.equalIn 10000 25 (.agg c.cells) (.agg c.cells)).run Tryz.prog W = .ok true W := by
  have hf : Tryz.prog.underlying 25 = some (.struct (Tryz.prog.fieldsOf 25)) := by kernel_rfl
  have hp : Tryz.prog.stoodInHeld 25 = false := by kernel_rfl
  rw [run_equalIn_struct W 9999 25 _ _ hf hp]
  simp only [Program.fieldsOf, Tryz.underlying25]
  refine eqF_same (a := .agg #[.string c.p0, .string c.p1, .string c.p2, .string c.p3]) (by decide) rfl (eq_four 9997 _ _ _ _ W) ?_
  refine eqF_same (a := .agg #[.string c.n0, .string c.n1]) (by decide) rfl (eq_two 9997 _ _ W) ?_
  refine eqF_same (a := .string c.id) (by decide) rfl (by rw [run_equalIn_string W 9998 9 _ _ Tryz.underlying9]; simp) ?_
  rfl
theorem eql_X (c : Kx) (W : World) : (binOp .eql 25 (.agg c.cells) (.agg c.cells)).run Tryz.prog W = .ok (.bool true) W := by rw [run_eql_struct, eqX]; rfl
theorem guard_X (op : BinOp) (x y : Operand) (a b : Array Value) (W : World) : (eqGuard op 25 x y (.agg a) (.agg b)).run Tryz.prog W = .ok () W := run_eqGuard_agg W op _ x y _ _ (by kernel_rfl)
theorem ex_eqX {o : Oper} {ρ : Operand → Value} {x y : Operand} {c : Kx} {w : World} (ho : o.op = .binOp .eql 25 x y 25) (hx : ρ x = .agg c.cells) (hy : ρ y = .agg c.cells) : (execOp ρ o).run Tryz.prog w = .ok (.value (.bool true)) w := by
  unfold execOp
  simp only [ho, hx, hy, Sem.run_bind, guard_X, Result.andThen_ok, eql_X, Sem.run_pure]
/-- l is l', but for where the messages' Subs stand. -/
def PlL (l l' : List M) : Prop := l.length = l'.length ∧ ∀ i (h : i < l.length) (h' : i < l'.length), Pl l[i] l'[i]
theorem PlL.nil : PlL [] [] := ⟨rfl, fun i h => absurd h (by simp)⟩
theorem PlL.one {n m : M} (h : Pl n m) : PlL [n] [m] := ⟨rfl, fun i h1 h2 => by
  obtain rfl : i = 0 := by (simp at h1; exact h1)
  exact h⟩
theorem PlL.at_one {l : List M} {m : M} (h : PlL l [m]) : ∃ n, l = [n] ∧ Pl n m := by
  obtain ⟨n, rfl⟩ := List.length_eq_one_iff.1 h.1
  exact ⟨n, rfl, h.2 0 (by simp) (by simp)⟩
/-- A list of messages of a call's own (what is new begins at block B): each has Subs alone, which are the call's own. -/
def MOwn (B : Nat) (w : World) (a : Option Addr) (l : List M) : Prop :=
  ∀ i (h : i < l.length), ∃ p, a = some p ∧ B ≤ p.block ∧ p.block < w.heap.size ∧ (∀ j v, (l[i].cells.toList)[j]? = some v → w.cell? ((p.add (i * 25)).add j) = some v) ∧ l[i].ll = [] ∧ Sx.Lst B w (.slice l[i].sa l[i].sl.length l[i].sc) l[i].sl
theorem MOwn.nil (B : Nat) (w : World) (a : Option Addr) : MOwn B w a [] := fun i hi => absurd hi (by simp)
theorem MOwn.below {B : Nat} {w w' : World} {a : Option Addr} {l : List M} (h : MOwn B w a l) (hb : Below w.heap.size w w') : MOwn B w' a l := fun i hi => by
  obtain ⟨p, h1, h2, h3, h4, h5, h6⟩ := h i hi
  exact ⟨p, h1, h2, Nat.lt_of_lt_of_le h3 hb.size, fun j v hv => (hb.cell (by rw [add_block, add_block]; exact h3)).trans (h4 j v hv), h5, h6.below hb⟩
theorem MOwn.mono {B B' : Nat} {w : World} {a : Option Addr} {l : List M} (h : MOwn B w a l) (hB : B' ≤ B) : MOwn B' w a l := fun i hi => by
  obtain ⟨p, h1, h2, h3, h4, h5, h6⟩ := h i hi
  exact ⟨p, h1, Nat.le_trans hB h2, h3, h4, h5, lst_mono h6 hB⟩
theorem MOwn.under {B g : Nat} {w : World} {a : Option Addr} {l : List M} (h : MOwn B w a l) (hg : g < B) (cs : Array Value) : MOwn B (w.setRow g cs) a l := fun i hi => by
  obtain ⟨p, h1, h2, h3, h4, h5, h6⟩ := h i hi
  refine ⟨p, h1, h2, by simpa using h3, fun j v hv => ?_, h5, lst_under h6 hg cs⟩
  have hne : ((p.add (i * 25)).add j).block ≠ g := by rw [add_block, add_block]; omega
  have hb : Below (g + 1) (w.setRow g cs) (w.setRow g cs) := Below.refl _ _
  have := h4 j v hv
  unfold World.cell? at this ⊢
  rw [setRow_other w g _ cs hne]
  exact this
/-- What a step answers: what is known, messages (the list and their Subs are the call's own), an error. -/
def AnsC (p : Kx × List M × Int) (w : World) (e : Ending) (w' : World) : Prop :=
  ∃ a c l, e = .returned (.tuple #[.agg p.1.cells, .slice a l.length c, .int .i64 p.2.2]) ∧ PlL l p.2.1 ∧ MOwn w.heap.size w' a l ∧ Below w.heap.size w w'
theorem AnsC.no {p : Kx × List M × Int} {w w' : World} {c : Kx} {d : Int} (h : p = (c, [], d)) (hb : Below w.heap.size w w') : AnsC p w (.returned (.tuple #[.agg c.cells, .slice none 0 0, .int .i64 d])) w' := by
  subst h
  exact ⟨none, 0, [], rfl, PlL.nil, MOwn.nil _ _ _, hb⟩
theorem one_new {B : Nat} {w : World} {n : M} (h : n.ll = []) (hl : Sx.Lst B w (.slice n.sa n.sl.length n.sc) n.sl) (hB : B ≤ w.heap.size) : MOwn B (w.alloc (.cells n.cells 29)) (some ⟨w.heap.size, 0, none⟩) [n] := by
  intro i hi
  obtain rfl : i = 0 := by (simp at hi; exact hi)
  refine ⟨_, rfl, hB, by rw [alloc_size]; exact Nat.lt_succ_self _, fun j v hv => ?_, h, hl.below (balloc (Below.refl _ w) _)⟩
  have := cells_new n w j v hv
  rw [add_at] at this
  rw [add_at, add_at, Nat.zero_mul, Nat.add_zero]
  exact this
theorem AnsC.one {p : Kx × List M × Int} {w w' : World} {a : Option Addr} {c : Kx} {m n : M} {k : Nat} (h : p = (c, [m], 0)) (hp : Pl n m) (hn : MOwn w.heap.size w' a [n]) (hb : Below w.heap.size w w') : AnsC p w (.returned (.tuple #[.agg c.cells, .slice a 1 k, .int .i64 0])) w' := by
  subst h
  exact ⟨a, k, [n], rfl, PlL.one hp, hn, hb⟩

section
variable {H : Type} {enc : TypeId × Value → H} {W : World}
theorem open_msgP {fuel : Nat} {cs : List Value} {x : DataW H × List MemPlace} (h : DataW.trod enc Tryz.prog W 0 (fun _ => true) true fuel 29 cs = some x) :
    ∃ m : M, cs = m.cells.toList ∧ DRow W m.la m.ll ∧ SRow W m.sa m.sl ∧ m.pfx.size ≤ maxLen := by
  obtain ⟨m, rfl, hd, hs⟩ := open_msg h
  refine ⟨m, rfl, hd, hs, ?_⟩
  obtain ⟨_, n, go⟩ := each_field Tryz.underlying29 (by kernel_rfl) h
  obtain ⟨y6, h6⟩ := go 6 _ rfl
  obtain ⟨k6, e6, _, z6⟩ := DataW.trod_string Tryz.underlying9 (show DataW.trod enc Tryz.prog W 0 (fun _ => true) true n 9 [.string m.pfx] = some y6 from h6)
  have e : m.pfx = k6 := by
    have := (List.cons.inj e6).1
    injection this
  rw [e]
  exact z6
theorem by_valueP {base : Nat} {v : Value} {d : DataW H} {p : List MemPlace} (hv : Value.okWide Tryz.prog W .any base 29 v) (h : DataW.Trod enc Tryz.prog W 0 (fun _ => true) true 29 v d p) :
    ∃ m : M, v = .agg m.cells ∧ DRow W m.la m.ll ∧ SRow W m.sa m.sl ∧ m.pfx.size ≤ maxLen := by
  obtain ⟨cs, rfl, hsz⟩ := okWide_struct Tryz.underlying29 hv
  obtain ⟨fuel, hf⟩ := h
  obtain ⟨m, hm, hd, hs, hp⟩ := open_msgP hf
  have : cs = m.cells := Array.ext' hm
  subst this
  exact ⟨m, rfl, hd, hs, hp⟩
theorem cellsX : Tryz.prog.cellsOf 25 = 7 := by kernel_rfl
theorem trod_struct3 {t : TypeId} {f0 f1 f2 : Field} {fuel : Nat} {cs : List Value} {x : DataW H × List MemPlace} (ht : Tryz.prog.underlying t = some (.struct #[f0, f1, f2])) (h : DataW.trod enc Tryz.prog W 0 (fun _ => true) true fuel t cs = some x) :
    ∃ y0 y1 y2 n, cs.length = Tryz.prog.cellsOf t ∧ DataW.trod enc Tryz.prog W 0 (fun _ => true) true n f0.type ((cs.drop f0.offset).take (Tryz.prog.cellsOf f0.type)) = some y0 ∧
      DataW.trod enc Tryz.prog W 0 (fun _ => true) true n f1.type ((cs.drop f1.offset).take (Tryz.prog.cellsOf f1.type)) = some y1 ∧ DataW.trod enc Tryz.prog W 0 (fun _ => true) true n f2.type ((cs.drop f2.offset).take (Tryz.prog.cellsOf f2.type)) = some y2 := by
  obtain ⟨xs, n, _, rfl, hl, hlen, hf⟩ := DataW.trod_struct ht h
  match xs, hlen with
  | [y0, y1, y2], _ => exact ⟨y0, y1, y2, n, hl, by simpa using hf 0 f0 rfl, by simpa using hf 1 f1 rfl, by simpa using hf 2 f2 rfl⟩
theorem open_str {n : Nat} {c : Value} {y : DataW H × List MemPlace} (h : DataW.trod enc Tryz.prog W 0 (fun _ => true) true n 9 [c] = some y) : ∃ s : ByteArray, c = .string s ∧ s.size ≤ maxLen := by
  obtain ⟨k, e, _, z⟩ := DataW.trod_string Tryz.underlying9 h
  exact ⟨k, (List.cons.inj e).1, z⟩
theorem open_ctx {fuel : Nat} {cs : List Value} {x : DataW H × List MemPlace} (h : DataW.trod enc Tryz.prog W 0 (fun _ => true) true fuel 25 cs = some x) :
    ∃ c : Kx, cs = c.cells.toList ∧ c.p0.size ≤ maxLen ∧ c.p1.size ≤ maxLen ∧ c.p2.size ≤ maxLen ∧ c.p3.size ≤ maxLen ∧ c.n0.size ≤ maxLen ∧ c.n1.size ≤ maxLen ∧ c.id.size ≤ maxLen := by
  obtain ⟨y0, y1, y2, n, hlen, h0, h1, h2⟩ := trod_struct3 Tryz.underlying25 h
  rw [cellsX] at hlen
  have z4 : Tryz.prog.cellsOf 22 = 4 := by kernel_rfl
  have z2 : Tryz.prog.cellsOf 23 = 2 := by kernel_rfl
  have z1 : Tryz.prog.cellsOf 9 = 1 := by kernel_rfl
  match cs, hlen with
  | [c0, c1, c2, c3, c4, c5, c6], _ =>
    have h0 : DataW.trod enc Tryz.prog W 0 (fun _ => true) true n 22 [c0, c1, c2, c3] = some y0 := by
      have := h0
      rw [z4] at this
      exact this
    have h1 : DataW.trod enc Tryz.prog W 0 (fun _ => true) true n 23 [c4, c5] = some y1 := by
      have := h1
      rw [z2] at this
      exact this
    have h2 : DataW.trod enc Tryz.prog W 0 (fun _ => true) true n 9 [c6] = some y2 := by
      have := h2
      rw [z1] at this
      exact this
    obtain ⟨xs, m, _, _, _, hxl, hi⟩ := DataW.trod_array Tryz.underlying22 h0
    obtain ⟨ys, m', _, _, _, hyl, hj⟩ := DataW.trod_array Tryz.underlying23 h1
    have a0 := hi 0 (by decide)
    have a1 := hi 1 (by decide)
    have a2 := hi 2 (by decide)
    have a3 := hi 3 (by decide)
    have b0 := hj 0 (by decide)
    have b1 := hj 1 (by decide)
    rw [z1] at a0 a1 a2 a3 b0 b1
    rw [List.getElem?_eq_getElem (by omega)] at a0 a1 a2 a3 b0 b1
    obtain ⟨s0, rfl, q0⟩ := open_str (show DataW.trod enc Tryz.prog W 0 (fun _ => true) true m 9 [c0] = some _ from a0)
    obtain ⟨s1, rfl, q1⟩ := open_str (show DataW.trod enc Tryz.prog W 0 (fun _ => true) true m 9 [c1] = some _ from a1)
    obtain ⟨s2, rfl, q2⟩ := open_str (show DataW.trod enc Tryz.prog W 0 (fun _ => true) true m 9 [c2] = some _ from a2)
    obtain ⟨s3, rfl, q3⟩ := open_str (show DataW.trod enc Tryz.prog W 0 (fun _ => true) true m 9 [c3] = some _ from a3)
    obtain ⟨s4, rfl, q4⟩ := open_str (show DataW.trod enc Tryz.prog W 0 (fun _ => true) true m' 9 [c4] = some _ from b0)
    obtain ⟨s5, rfl, q5⟩ := open_str (show DataW.trod enc Tryz.prog W 0 (fun _ => true) true m' 9 [c5] = some _ from b1)
    obtain ⟨s6, rfl, q6⟩ := open_str h2
    exact ⟨⟨s0, s1, s2, s3, s4, s5, s6⟩, rfl, q0, q1, q2, q3, q4, q5, q6⟩
/-- No text is longer than any may be. -/
def Fit (c : Kx) : Prop := c.p0.size ≤ maxLen ∧ c.p1.size ≤ maxLen ∧ c.p2.size ≤ maxLen ∧ c.p3.size ≤ maxLen ∧ c.n0.size ≤ maxLen ∧ c.n1.size ≤ maxLen ∧ c.id.size ≤ maxLen
theorem by_ctx {base : Nat} {v : Value} {d : DataW H} {p : List MemPlace} (hv : Value.okWide Tryz.prog W .any base 25 v) (h : DataW.Trod enc Tryz.prog W 0 (fun _ => true) true 25 v d p) :
    ∃ c : Kx, v = .agg c.cells ∧ Fit c := by
  obtain ⟨cs, rfl, hsz⟩ := okWide_struct Tryz.underlying25 hv
  obtain ⟨fuel, hf⟩ := h
  obtain ⟨c, hm, hok⟩ := open_ctx hf
  have : cs = c.cells := Array.ext' hm
  subst this
  exact ⟨c, rfl, hok⟩
end
end Go.Proofs.YtfegdblaohhdoaaGreatDoor.Kb
namespace Go.Proofs.YtfegdblaohhdoaaGreatDoor.Tc
open Go.RowKit Go.ChangeShapes Go.WideShapes Go.Joins
set_option maxRecDepth 100000

/-- What the variable has. -/
structure Tab (w : World) : Prop where
  a0 : w.cell? ⟨0, 0, none⟩ = some (.int .i64 0)
  a1 : w.cell? ⟨0, 1, none⟩ = some (.int .i64 4)
  a2 : w.cell? ⟨0, 2, none⟩ = some (.int .i64 16)
  a3 : w.cell? ⟨0, 3, none⟩ = some (.int .i64 8)
  s0 : w.cell? ⟨1, 0, none⟩ = some (.int .i64 0)
  s1 : w.cell? ⟨1, 1, none⟩ = some (.int .i64 0)
  s2 : w.cell? ⟨1, 2, none⟩ = some (.int .i64 0)
  s3 : w.cell? ⟨1, 3, none⟩ = some (.int .i64 32)
  s4 : w.cell? ⟨1, 4, none⟩ = some (.int .i64 0)
  s5 : w.cell? ⟨1, 5, none⟩ = some (.int .i64 128)
  s6 : w.cell? ⟨1, 6, none⟩ = some (.int .i64 64)
  s7 : w.cell? ⟨1, 7, none⟩ = some (.int .i64 128)
theorem ga : Tryz.prog.globalNamed "roadbook/field.addrSizes" = some 0 := by kernel_rfl
theorem ta : (Tryz.prog.globals[0]?).map (·.type) = some 126 := by kernel_rfl
theorem g0 : Tryz.prog.globalNamed "roadbook/route.spans" = some 1 := by kernel_rfl
theorem t0 : (Tryz.prog.globals[1]?).map (·.type) = some 129 := by kernel_rfl
theorem eight {α : Type} (l : List α) (h : l.length = 8) : ∃ a b c d e f g i, l = [a, b, c, d, e, f, g, i] := by
  match l, h with
  | [a, b, c, d, e, f, g, i], _ => exact ⟨a, b, c, d, e, f, g, i, rfl⟩
theorem of_laid {w : World} (h : laidMetH Tryz.prog [("roadbook/field.addrSizes", Rows.laid_roadbook_field_addrSizes), ("roadbook/route.spans", Rows.laid_roadbook_route_spans)] w) : Tab w := by
  have h : laidMet Tryz.prog [("roadbook/field.addrSizes", Rows.laid_roadbook_field_addrSizes), ("roadbook/route.spans", Rows.laid_roadbook_route_spans)] w := by
    rw [MakeChecks.laidMetH_plain _ _ _ (by kernel_rfl)] at h; exact h
  have ha : Lib.TabIs Tryz.prog w "roadbook/field.addrSizes" .i64 [0, 4, 16, 8] := Lib.tabIs_of_head ga ta Tryz.underlying126 Tryz.underlying3 (by kernel_rfl) (by kernel_rfl) (rest := _) (by exact h)
  have h := h.tail
  obtain ⟨ps, ⟨g', t', cs, f, p, q, hg', ht', hv, hd, _, _⟩, _⟩ := h
  obtain rfl := Option.some.inj (g0.symm.trans hg')
  obtain rfl := Option.some.inj (t0.symm.trans ht')
  have cS : Tryz.prog.cellsOf 128 = 2 := by kernel_rfl
  have cA : Tryz.prog.cellsOf 129 = 8 := by kernel_rfl
  have c3 : Tryz.prog.cellsOf 3 = 1 := by kernel_rfl
  obtain ⟨xs, m, _, ex, hl, hn, hel⟩ := DataW.trod_array Tryz.underlying129 hd
  rw [cA] at hl
  obtain ⟨a0, a1, a2, a3, a4, a5, a6, a7, hcs⟩ := eight _ hl
  have e0 := hel 0 (by decide)
  have e1 := hel 1 (by decide)
  have e2 := hel 2 (by decide)
  have e3 := hel 3 (by decide)
  rw [cS, hcs] at e0 e1 e2 e3
  match xs, hn, ex, e0, e1, e2, e3 with
  | [x0, x1, x2, x3], _, ex, e0, e1, e2, e3 =>
    simp only [List.drop_zero, List.take_succ_cons, List.take_zero, Nat.zero_mul, Nat.one_mul, Nat.reduceMul, List.drop_succ_cons, List.getElem?_cons_zero, List.getElem?_cons_succ] at e0 e1 e2 e3
    obtain ⟨y0, y1, n0, hx0, _, f0, f1⟩ := trod_struct2 Tryz.underlying128 e0
    obtain ⟨y2, y3, n1, hx1, _, f2, f3⟩ := trod_struct2 Tryz.underlying128 e1
    obtain ⟨y4, y5, n2, hx2, _, f4, f5⟩ := trod_struct2 Tryz.underlying128 e2
    obtain ⟨y6, y7, n3, hx3, _, f6, f7⟩ := trod_struct2 Tryz.underlying128 e3
    simp only [c3, List.drop_zero, List.take_succ_cons, List.take_zero, List.drop_succ_cons] at f0 f1 f2 f3 f4 f5 f6 f7
    obtain ⟨b0, q0, k0, _⟩ := DataW.trod_int Tryz.underlying3 f0
    obtain ⟨b1, q1, k1, _⟩ := DataW.trod_int Tryz.underlying3 f1
    obtain ⟨b2, q2, k2, _⟩ := DataW.trod_int Tryz.underlying3 f2
    obtain ⟨b3, q3, k3, _⟩ := DataW.trod_int Tryz.underlying3 f3
    obtain ⟨b4, q4, k4, _⟩ := DataW.trod_int Tryz.underlying3 f4
    obtain ⟨b5, q5, k5, _⟩ := DataW.trod_int Tryz.underlying3 f5
    obtain ⟨b6, q6, k6, _⟩ := DataW.trod_int Tryz.underlying3 f6
    obtain ⟨b7, q7, k7, _⟩ := DataW.trod_int Tryz.underlying3 f7
    subst k0 k1 k2 k3 k4 k5 k6 k7
    subst hx0 hx1 hx2 hx3
    simp [Rows.laid_roadbook_route_spans] at ex
    obtain ⟨⟨⟨r0, r1⟩, ⟨r2, r3⟩, ⟨r4, r5⟩, r6, r7⟩, _⟩ := ex
    simp only [List.cons.injEq, and_true] at q0 q1 q2 q3 q4 q5 q6 q7
    have hc : ∀ i, w.cell? ⟨1, i, none⟩ = cs.toList[i]? := fun i => by have := World.var?_cell g0 hv i; simpa using this
    rw [hcs] at hc
    subst q0 q1 q2 q3 q4 q5 q6 q7
    subst r0 r1 r2 r3 r4 r5 r6 r7
    exact ⟨ha.cell ga 0 (by decide), ha.cell ga 1 (by decide), ha.cell ga 2 (by decide), ha.cell ga 3 (by decide), hc 0, hc 1, hc 2, hc 3, hc 4, hc 5, hc 6, hc 7⟩
theorem Tab.pos {w : World} (h : Tab w) : 1 < w.heap.size := by
  have h0 := World.block_lt_of_cell? _ _ h.a0
  have h0 : 0 < w.heap.size := h0
  have h1 := World.block_lt_of_cell? _ _ h.s0
  have h1 : 1 < w.heap.size := h1
  omega
/-- .. and behind whatever leaves the first two blocks as they were. -/
theorem Tab.under {B : Nat} {w w' : World} (h : Tab w) (hb : Below B w w') (hB : 1 < B) : Tab w' := by
  have c : ∀ b i, b ≤ 1 → w'.cell? ⟨b, i, none⟩ = w.cell? ⟨b, i, none⟩ := fun b i hi => hb.cell (p := ⟨b, i, none⟩) (by show b < B; omega)
  exact ⟨(c _ _ (by decide)).trans h.a0, (c _ _ (by decide)).trans h.a1, (c _ _ (by decide)).trans h.a2, (c _ _ (by decide)).trans h.a3, (c _ _ (by decide)).trans h.s0, (c _ _ (by decide)).trans h.s1, (c _ _ (by decide)).trans h.s2, (c _ _ (by decide)).trans h.s3, (c _ _ (by decide)).trans h.s4, (c _ _ (by decide)).trans h.s5, (c _ _ (by decide)).trans h.s6, (c _ _ (by decide)).trans h.s7⟩
theorem Tab.below {w w' : World} (h : Tab w) (hb : Below w.heap.size w w') : Tab w' := h.under hb h.pos
end Go.Proofs.YtfegdblaohhdoaaGreatDoor.Tc
namespace Go.Proofs.YtfegdblaohhdoaaGreatDoor.F2
open Go.ChangeShapes Go.WideShapes Go.ChangeAt Go.RowKit
open Go.Proofs.YtfegdblaohhdoaaGreatDoor.F1
open Go.Proofs.YtfegdblaohhdoaaGreatDoor.Nu
open Go.Proofs.YtfegdblaohhdoaaGreatDoor.Cur (numL)
open Go.Proofs.YtfegdblaohhdoaaGreatDoor.Bk (Bk Sh loadVarK wpList_builtK wpList_loadK wpList_storeK run_loadK alloc_size)
open Go.Proofs.YtfegdblaohhdoaaGreatDoor.Hs
open Go.Proofs.YtfegdblaohhdoaaGreatDoor.Hx (conv8 ex_built H.storeRow)
set_option linter.unusedVariables false
set_option maxRecDepth 100000
set_option maxRecDepth 100000

theorem bcall {w W w1 : World} (h : Below w.heap.size w W) (hb : Below W.heap.size W w1) : Below w.heap.size w w1 := h.trans (hb.mono h.size)
theorem balloc {w W : World} (h : Below w.heap.size w W) (o : Obj) : Below w.heap.size w (W.alloc o) := h.alloc h.size o
theorem idx (b : ByteArray) (k : Nat) (i : Int) (hi : i = k) (h : k < b.size) (W : World) : (Instr.index 9 (.string b) (.int .i64 i)).run Tryz.prog W = .ok (.int .u8 (bt b k)) W := by
  subst hi
  rw [run_index_string W 9 b .i64 (k : Int) Tryz.underlying9, dif_pos ⟨by omega, by omega⟩, ← bt_eq b k h]
  rfl
theorem sl_m (s : ByteArray) (i j : Int) (lo hi : Nat) (hi' : i = lo) (hj : j = hi) (h1 : lo ≤ hi) (h2 : hi ≤ s.size) (W : World) :
    (Instr.slice 9 (.string s) (some (.int .i64 i)) (some (.int .i64 j)) none).run Tryz.prog W = .ok (.string (s.extract lo hi)) W := by
  subst hi' hj
  have := run_slice_string (P := Tryz.prog) W 9 s .i64 .i64 (lo : Int) (hi : Int) Tryz.underlying9 (by omega) (by omega) (by omega)
  simpa using this
theorem sl_l (s : ByteArray) (i : Int) (lo hi : Nat) (hi' : i = lo) (h1 : lo ≤ s.size) (hs : s.size = hi) (W : World) :
    (Instr.slice 9 (.string s) (some (.int .i64 i)) none none).run Tryz.prog W = .ok (.string (s.extract lo hi)) W := by
  subst hi' hs
  have := run_slice_string_l (P := Tryz.prog) (t := 9) (s := s) W Tryz.underlying9 .i64 (lo : Int) (by omega) (by omega)
  simpa using this
end Go.Proofs.YtfegdblaohhdoaaGreatDoor.F2
