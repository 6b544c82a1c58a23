/-
  What stands beside a message's copy; the answer of a Get of messages with Subs alone: a message, whether it counts, an error; what few parts say. No conditions.
-/
import Derived.Test.YteecialdkfaejaaDoorOwn
import Derived.Test.YteecialdkfaejaaDoorFew
import Derived.Test.YteecialdkfaejaaDoorP5
namespace Go.Proofs.YteecialdkfaejaaDoor.An
open Go.ChangeShapes Go.WideShapes Go.ChangeAt Go.RowKit
open Go.Proofs.YteecialdkfaejaaDoor.Ms
open Go.Proofs.YteecialdkfaejaaDoor.Box
set_option linter.unusedVariables false
set_option maxRecDepth 100000
set_option maxRecDepth 100000
theorem below_setRow {B : Nat} {a w : World} (h : Below B a w) {g : Nat} (hg : B ≤ g) (cs : Array Value) : Below B a (w.setRow g cs) :=
  h.trans ⟨rfl, rfl, rfl, by simp, fun k hk => setRow_other w g k cs (by omega)⟩
theorem lst_under {B g : Nat} {w : World} {v : Value} {l : List El} (h : Sx.Lst B w v l) (hg : g < B) (cs : Array Value) : Sx.Lst B (w.setRow g cs) v l := by
  refine ⟨h.1, ?_⟩
  rcases h.2 with h | ⟨k, cap, cur, a, b, c, d⟩
  · exact .inl h
  · exact .inr ⟨k, cap, cur, a, b, (setRow_other w g k cs (by omega)).trans c, d⟩
theorem lst_mono {B B' : Nat} {w : World} {v : Value} {l : List El} (h : Sx.Lst B w v l) (hB : B' ≤ B) : Sx.Lst B' w v l := by
  refine ⟨h.1, ?_⟩
  rcases h.2 with h | ⟨k, cap, cur, a, b, c, d⟩
  · exact .inl h
  · exact .inr ⟨k, cap, cur, a, Nat.le_trans hB b, c, d⟩
/-- The answer: a message (its Subs are the call's own), whether it counts, an error. -/
def AnsB (p : M × Bool × Int) (w : World) (e : Ending) (w' : World) : Prop :=
  ∃ sa sc, e = .returned (.tuple #[.agg (M.cells { p.1 with sa := sa, sc := sc }), .bool p.2.1, .int .i64 p.2.2]) ∧
    Sx.Lst w.heap.size w' (.slice sa p.1.sl.length sc) p.1.sl ∧ Below w.heap.size w w'
theorem AnsB.no {p : M × Bool × Int} {w w' : World} {d : Int} (h : p = (M.zero, false, d)) (hb : Below w.heap.size w w') : AnsB p w (.returned (.tuple #[.agg M.zero.cells, .bool false, .int .i64 d])) w' := by
  subst h
  exact ⟨none, 0, rfl, Sx.Lst.nil _ _, hb⟩
theorem AnsB.subs {p : M × Bool × Int} {w w' : World} {r : M} {a : Option Addr} {l : List El} {c B : Nat} (h : p = ({ r with sl := l }, true, 0)) (hl : Sx.Lst B w' (.slice a l.length c) l) (hB : w.heap.size ≤ B) (hb : Below w.heap.size w w') :
    AnsB p w (.returned (.tuple #[.agg (M.cells { r with sa := a, sl := l, sc := c }), .bool true, .int .i64 0])) w' := by
  subst h
  exact ⟨a, c, rfl, lst_mono hl hB, hb⟩
theorem results_three {fn : Func} {P : Program} {p q r : Nat} {ty : TypeId} (h : fn.results = #[.cell p ty, .tmp q, .tmp r]) (tmps : Array Value) (w : World) (g : Nat) (u : Value)
    (hp : tmps.getD p undef = .pointer (some ⟨g, 0, none⟩)) (hl : (loadVar ty ⟨g, 0, none⟩).run P w = .ok u w) (v : Value) (hv : tmps.getD q undef = v) (x : Value) (hx : tmps.getD r undef = x) :
    (results fn tmps).run P w = .ok (.tuple #[u, v, x]) w := by
  have hp' : tmps[p]?.getD undef = .pointer (some ⟨g, 0, none⟩) := by simpa using hp
  have hv' : tmps[q]?.getD undef = v := by simpa using hv
  have hx' : tmps[r]?.getD undef = x := by simpa using hx
  simp [results, h, hp', hv', hx', asAddr, hl]
theorem ret3 {fn : Func} {p q r : Nat} (h : fn.results = #[.cell p 40, .tmp q, .tmp r]) (tmps : Array Value) (w : World) (g : Nat) (m : M)
    (hp : tmps.getD p undef = .pointer (some ⟨g, 0, none⟩)) (hm : Bx w g m) (v : Value) (hv : tmps.getD q undef = v) (x : Value) (hx : tmps.getD r undef = x) :
    (results fn tmps).run Tryd.prog w = .ok (.tuple #[.agg m.cells, v, x]) w := results_three h tmps w g _ hp (Own.loadVarM hm) v hv x hx
/-- What stays: the message's copy, its lists. -/
structure Fs (w W : World) (g : Nat) (f : M) : Prop where
  m : Bx W g f
  i : f.In W
  bel : Below w.heap.size w W
theorem Fs.call {w W w' : World} {g : Nat} {f : M} (h : Fs w W g f) (hb : Below W.heap.size W w') : Fs w w' g f := ⟨h.m.below hb, h.i.below hb, h.bel.trans (hb.mono h.bel.size)⟩
theorem Fs.new (w : World) (m : M) (hm : m.In w) : Fs w (w.alloc (.cells m.cells 40)) w.heap.size m := ⟨Bx.new w m, hm.below (balloc (Below.refl _ w) _), balloc (Below.refl _ w) _⟩
theorem Fs.drew {w W : World} {g : Nat} {f : M} (h : Fs w W g f) : Fs w W.drew g f := ⟨h.m, ⟨h.i.d, h.i.s, h.i.dl, h.i.sl⟩, h.bel.drew⟩
theorem heldF {P : Program} {f : Nat} {args : Array Value} {v : Ending} {w W : World} {g : Nat} {m : M} (h : Calls P f args W fun e w' => e = v ∧ Below W.heap.size W w') (hS : Fs w W g m) : Calls P f args W fun e w' => e = v ∧ Fs w w' g m :=
  h.mono fun _ _ ⟨he, hb⟩ => ⟨he, hS.call hb⟩
/-- n is m, but for where its Subs stand. -/
def Pl (n m : M) : Prop := n = { m with sa := n.sa, sc := n.sc }
theorem Pl.same {n n' m m' : M} (h : Pl n m) (h' : Pl n' m') : M.same n n' = M.same m m' := by
  rw [show n = _ from h, show n' = _ from h']
  rfl
theorem Pl.sl {n m : M} (h : Pl n m) : n.sl = m.sl := by rw [show n = _ from h]
theorem Pl.refl (m : M) : Pl m m := rfl
theorem same_self (m : M) : M.same m m = true := by unfold M.same M.flatE; simp
theorem AnsB.at {p : M × Bool × Int} {w : World} {e : Ending} {w' : World} (h : AnsB p w e w') (hd : p.1.ll = []) (hs : p.1.sl.length ≤ 1048576) :
    ∃ n : M, e = .returned (.tuple #[.agg n.cells, .bool p.2.1, .int .i64 p.2.2]) ∧ n.In w' ∧ Pl n p.1 ∧ Below w.heap.size w w' := by
  obtain ⟨sa, sc, h1, h3, h4⟩ := h
  exact ⟨_, h1, ⟨by show DRow w' _ p.1.ll; rw [hd]; exact DRow.nil _ _, h3.row, by show p.1.ll.length ≤ _; rw [hd]; exact Nat.zero_le _, hs⟩, rfl, h4⟩
/-- An answer that the caller stores into a message's block of its own. -/
theorem AnsB.boxed {p : M × Bool × Int} {w W w1 : World} {e : Ending} (h : AnsB p W e w1) (hz : w.heap.size < W.heap.size) (hb : Below w.heap.size w W) :
    ∃ n : M, e = .returned (.tuple #[.agg n.cells, .bool p.2.1, .int .i64 p.2.2]) ∧ Below W.heap.size W w1 ∧ AnsB p w e (w1.setRow w.heap.size n.cells) := by
  obtain ⟨sa, sc, h1, h3, h4⟩ := h
  exact ⟨_, h1, h4, sa, sc, h1, lst_mono (lst_under h3 hz _) (Nat.le_of_lt hz), below_setRow (hb.trans (h4.mono hb.size)) (Nat.le_refl _) _⟩
theorem few_parts {m : M} (h : Few.fewB m = true) : m.ll.length ≤ 300 ∧ m.sl.length ≤ 60 ∧ ∀ x ∈ m.sl, x.1.size ≤ 1099511627776 := by
  unfold Few.fewB at h
  simp only [Bool.and_eq_true, decide_eq_true_eq] at h
  refine ⟨h.1.1.1.1.1.1.1, h.1.1.1.1.1.1.2, fun x hx => ?_⟩
  have h2 := h.2
  unfold Few.small at h2
  rw [List.all_eq_true] at h2
  have := h2 x hx
  rw [decide_eq_true_eq] at this
  omega
theorem few_in {m : M} {w : World} (h : Few.fewB m = true) (hd : DRow w m.la m.ll) (hs : SRow w m.sa m.sl) : m.In w := ⟨hd, hs, by have := (few_parts h).1; omega, by have := (few_parts h).2.1; omega⟩
end Go.Proofs.YteecialdkfaejaaDoor.An
