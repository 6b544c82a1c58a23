/-
  What is known as the program holds it: its block, loaded and stored whole; whether two are the same; lists of messages that are alike but for where their Subs stand; what a step answers; what came in, opened. No conditions.
-/
import Derived.Test.YteecialdkfaejaaDoorK1
import Derived.Test.YteecialdkfaejaaDoorAn
import Derived.Test.YteecialdkfaejaaDoorAp
import Derived.Test.YteecialdkfaejaaDoorTo
import Derived.Lib.SmallJoins
namespace Go.Proofs.YteecialdkfaejaaDoor.Kb
open Go.ChangeShapes Go.WideShapes Go.ChangeAt Go.RowKit Go.Joins
open Go.Proofs.YteecialdkfaejaaDoor.Ms
open Go.Proofs.YteecialdkfaejaaDoor.Box
open Go.Proofs.YteecialdkfaejaaDoor.All
open Go.Proofs.YteecialdkfaejaaDoor.An
open Go.Proofs.YteecialdkfaejaaDoor.K1
open Go.Proofs.YteecialdkfaejaaDoor.F1 (T)
open Go.Proofs.YteecialdkfaejaaDoor.Ap (add_at cells_new)
open Go.Proofs.YteecialdkfaejaaDoor.Tl (cellsT TRow)
open Go.Proofs.YteecialdkfaejaaDoor.Open (each_field els open_msg)
open Go.Proofs.YteecialdkfaejaaDoor.Bk (Bk Sh alloc_size wpList_loadK wpList_storeK run_loadK)
open Go.Deep
set_option linter.unusedVariables false
set_option maxRecDepth 100000
theorem shX : Sh Tryd.prog 27 7 := ⟨_, Tryd.underlying27, by kernel_rfl⟩
theorem oneX (x : Kx) : (x.cells.all fun x => x.oneCell') = true := by simp [Kx.cells, Value.oneCell']
theorem wpList_loadX {ops : Array Oper} {rest : List Oper} {o : Oper} {a : Act} {w : World} {Q : Exit → Act → World → Prop} (hgd : o.guard = none) (x : Operand) (ho : o.op = .load 27 x) {b : Nat} (hx : a.eval x = .pointer (some ⟨b, 0, none⟩)) {m : Kx} (hb : Bk 27 w b m.cells)
    (h : wpList Tryd.prog ops Q rest (a.put o.dst (.agg m.cells)) w) : wpList Tryd.prog ops Q (o :: rest) a w := wpList_loadK shX hgd x ho hx hb rfl h
theorem wpList_storeX {ops : Array Oper} {rest : List Oper} {o : Oper} {a : Act} {w : World} {Q : Exit → Act → World → Prop} (hgd : o.guard = none) (x y : Operand) (ho : o.op = .store 27 x y) {b : Nat} (hx : a.eval x = .pointer (some ⟨b, 0, none⟩)) {m m' : Kx} (hy : a.eval y = .agg m'.cells) (hb : Bk 27 w b m.cells)
    (h : wpList Tryd.prog ops Q rest (a.put o.dst undef) (w.setRow b m'.cells)) : wpList Tryd.prog ops Q (o :: rest) a w := wpList_storeK shX hgd x y ho hx hy hb rfl rfl (oneX m') h

/-- What is the same as itself. -/
theorem eq_arr {P : Program} {W : World} (d : Nat) (t e : TypeId) (n : Nat) (xs : Array Value) (ht : P.underlying t = some (.array n e))
    (hz : (sizeOf e).run P W = .ok 1 W) (hx : ∀ i, i < n → ∃ a, (part e xs i).run P W = .ok a W ∧ (Op.equalIn d e a a).run P W = .ok true W) : (Op.equalIn (d + 1) t (.agg xs) (.agg xs)).run P W = .ok true W := by
  simp only [Op.equalIn, Sem.run_bind, run_underlying ht, Result.andThen_ok, hz]
  rw [Std.Legacy.Range.forIn_eq_forIn_range']
  simp only [Std.Legacy.Range.size, Nat.sub_zero, Nat.add_one_sub_one, Nat.div_one]
  have hl : ∀ i ∈ List.range' 0 n 1, i < n := fun i hi => by simp at hi; exact hi
  generalize List.range' 0 n 1 = l at *
  induction l with
  | nil => simp
  | cons i l ih =>
    obtain ⟨a, ha, hq⟩ := hx i (hl i (by simp))
    simp only [List.forIn_cons, Sem.run_bind, Nat.mul_one, ha, Result.andThen_ok, hq, Bool.not_true, Bool.false_eq_true, if_false, Sem.run_pure]
    have := ih (fun j hj => hl j (by simp [hj]))
    simp only [Nat.mul_one] at this
    exact this
theorem eqF_same {P : Program} {W : World} {d : Nat} {f : Field} {fs : List Field} {xs : Array Value} {a : Value} {r : Bool} (hn : f.name ≠ "_")
    (hx : (part f.type xs f.offset).run P W = .ok a W) (hq : (Op.equalIn d f.type a a).run P W = .ok true W) (h : (Op.eqFields d xs xs fs).run P W = .ok r W) :
    (Op.eqFields d xs xs (f :: fs)).run P W = .ok r W := by
  simp only [Op.eqFields, ne_eq, hn, not_false_eq_true, if_true, Sem.run_bind, hx, Result.andThen_ok, hq, Bool.not_true, Bool.false_eq_true, if_false, h]
theorem size_str (W : World) : (sizeOf 9).run Tryd.prog W = .ok 1 W := by go_simp
theorem eq_four (d : Nat) (a b c e : ByteArray) (W : World) : (Op.equalIn (d + 2) 24 (.agg #[.string a, .string b, .string c, .string e]) (.agg #[.string a, .string b, .string c, .string e])).run Tryd.prog W = .ok true W := by
  refine eq_arr (d + 1) 24 9 4 _ Tryd.underlying24 (size_str W) fun i hi => ?_
  have hs : ∀ x, (Op.equalIn (d + 1) 9 (.string x) (.string x)).run Tryd.prog W = .ok true W := fun x => by rw [run_equalIn_string W d 9 x x Tryd.underlying9]; simp
  rcases (show i = 0 ∨ i = 1 ∨ i = 2 ∨ i = 3 by omega) with rfl | rfl | rfl | rfl
  · exact ⟨_, rfl, hs a⟩
  · exact ⟨_, rfl, hs b⟩
  · exact ⟨_, rfl, hs c⟩
  · exact ⟨_, rfl, hs e⟩
theorem eq_two (d : Nat) (a b : ByteArray) (W : World) : (Op.equalIn (d + 2) 25 (.agg #[.string a, .string b]) (.agg #[.string a, .string b])).run Tryd.prog W = .ok true W := by
  refine eq_arr (d + 1) 25 9 2 _ Tryd.underlying25 (size_str W) fun i hi => ?_
  have hs : ∀ x, (Op.equalIn (d + 1) 9 (.string x) (.string x)).run Tryd.prog W = .ok true W := fun x => by rw [run_equalIn_string W d 9 x x Tryd.underlying9]; simp
  rcases (show i = 0 ∨ i = 1 by omega) with rfl | rfl
  · exact ⟨_, rfl, hs a⟩
  · exact ⟨_, rfl, hs b⟩
theorem eqX (c : Kx) (W : World) : (Op.equalIn 10000 27 (.agg c.cells) (.agg c.cells)).run Tryd.prog W = .ok true W := by
  have hf : Tryd.prog.underlying 27 = some (.struct (Tryd.prog.fieldsOf 27)) := by kernel_rfl
  have hp : Tryd.prog.stoodInHeld 27 = false := by kernel_rfl
  rw [run_equalIn_struct W 9999 27 _ _ hf hp]
  simp only [Program.fieldsOf, Tryd.underlying27]
  refine eqF_same (a := .agg #[.string c.p0, .string c.p1, .string c.p2, .string c.p3]) (by decide) rfl (eq_four 9997 _ _ _ _ W) ?_
  refine eqF_same (a := .agg #[.string c.n0, .string c.n1]) (by decide) rfl (eq_two 9997 _ _ W) ?_
  refine eqF_same (a := .string c.id) (by decide) rfl (by rw [run_equalIn_string W 9998 9 _ _ Tryd.underlying9]; simp) ?_
  rfl
theorem eql_X (c : Kx) (W : World) : (binOp .eql 27 (.agg c.cells) (.agg c.cells)).run Tryd.prog W = .ok (.bool true) W := by rw [run_eql_struct, eqX]; rfl
theorem neq_X (c : Kx) (W : World) : (binOp .neq 27 (.agg c.cells) (.agg c.cells)).run Tryd.prog W = .ok (.bool false) W := by rw [run_neq_struct, eqX]; rfl
theorem eql_4 (a b c e : ByteArray) (W : World) : (binOp .eql 24 (.agg #[.string a, .string b, .string c, .string e]) (.agg #[.string a, .string b, .string c, .string e])).run Tryd.prog W = .ok (.bool true) W := by rw [run_eql_struct, eq_four 9998]; rfl
theorem guard_X (op : BinOp) (x y : Operand) (a b : Array Value) (W : World) : (eqGuard op 27 x y (.agg a) (.agg b)).run Tryd.prog W = .ok () W := run_eqGuard_agg W op _ x y _ _ (by kernel_rfl)
theorem guard_4 (op : BinOp) (x y : Operand) (a b : Array Value) (W : World) : (eqGuard op 24 x y (.agg a) (.agg b)).run Tryd.prog W = .ok () W := run_eqGuard_agg W op _ x y _ _ (by kernel_rfl)
theorem ex_eqX {o : Oper} {ρ : Operand → Value} {x y : Operand} {c : Kx} {w : World} (ho : o.op = .binOp .eql 27 x y 27) (hx : ρ x = .agg c.cells) (hy : ρ y = .agg c.cells) : (execOp ρ o).run Tryd.prog w = .ok (.value (.bool true)) w := by
  unfold execOp
  simp only [ho, hx, hy, Sem.run_bind, guard_X, Result.andThen_ok, eql_X, Sem.run_pure]
theorem ex_neX {o : Oper} {ρ : Operand → Value} {x y : Operand} {c : Kx} {w : World} (ho : o.op = .binOp .neq 27 x y 27) (hx : ρ x = .agg c.cells) (hy : ρ y = .agg c.cells) : (execOp ρ o).run Tryd.prog w = .ok (.value (.bool false)) w := by
  unfold execOp
  simp only [ho, hx, hy, Sem.run_bind, guard_X, Result.andThen_ok, neq_X, Sem.run_pure]

/-- l is l', but for where the messages' Subs stand. -/
def PlL (l l' : List M) : Prop := l.length = l'.length ∧ ∀ i (h : i < l.length) (h' : i < l'.length), Pl l[i] l'[i]
theorem PlL.nil : PlL [] [] := ⟨rfl, fun i h => absurd h (by simp)⟩
theorem PlL.one {n m : M} (h : Pl n m) : PlL [n] [m] := ⟨rfl, fun i h1 h2 => by
  obtain rfl : i = 0 := by (simp at h1; exact h1)
  exact h⟩
theorem PlL.refl (l : List M) : PlL l l := ⟨rfl, fun i h1 h2 => Pl.refl _⟩
theorem PlL.at_nil {l : List M} (h : PlL l []) : l = [] := List.length_eq_zero_iff.1 h.1
theorem PlL.at_one {l : List M} {m : M} (h : PlL l [m]) : ∃ n, l = [n] ∧ Pl n m := by
  obtain ⟨n, rfl⟩ := List.length_eq_one_iff.1 h.1
  exact ⟨n, rfl, h.2 0 (by simp) (by simp)⟩
theorem PlL.same {x x' y y' : List M} (h : PlL x y) (h' : PlL x' y') : sameL x x' = sameL y y' := by
  unfold sameL
  rw [decide_eq_decide]
  constructor
  · rintro ⟨h1, h2⟩
    refine ⟨by rw [← h.1, ← h'.1]; exact h1, fun i k1 k2 => ?_⟩
    rw [← (h.2 i (by rw [h.1]; exact k1) k1).same (h'.2 i (by rw [h'.1]; exact k2) k2)]
    exact h2 i _ _
  · rintro ⟨h1, h2⟩
    refine ⟨by rw [h.1, h'.1]; exact h1, fun i k1 k2 => ?_⟩
    rw [(h.2 i k1 (by rw [← h.1]; exact k1)).same (h'.2 i k2 (by rw [← h'.1]; exact k2))]
    exact h2 i _ _
theorem sameL_refl (l : List M) : sameL l l = true := sameL_yes rfl fun i h1 h2 => same_refl _
theorem PlL.short {x y : List M} (h : PlL x y) (hs : ∀ m ∈ y, m.la = none ∧ m.ll = [] ∧ m.lc = 0 ∧ m.sl.length ≤ 100 ∧ ∀ x ∈ m.sl, x.1.size ≤ 1099511627776) : ∀ m ∈ x, Short m := by
  intro m hm
  obtain ⟨i, hi, rfl⟩ := List.getElem_of_mem hm
  have hy : i < y.length := by rw [← h.1]; exact hi
  have hp := h.2 i hi hy
  obtain ⟨_, h1, _, h2, _⟩ := hs _ (List.getElem_mem hy)
  have e : x[i].ll = y[i].ll := by rw [show x[i] = _ from hp]
  exact ⟨by rw [e, h1]; exact Nat.zero_le _, by rw [hp.sl]; omega⟩
/-- A list of messages of a call's own (what is new begins at block B): each has Subs alone, which are the call's own. -/
def MOwn (B : Nat) (w : World) (a : Option Addr) (l : List M) : Prop :=
  ∀ i (h : i < l.length), ∃ p, a = some p ∧ B ≤ p.block ∧ p.block < w.heap.size ∧ (∀ j v, (l[i].cells.toList)[j]? = some v → w.cell? ((p.add (i * 25)).add j) = some v) ∧ l[i].ll = [] ∧ Sx.Lst B w (.slice l[i].sa l[i].sl.length l[i].sc) l[i].sl
theorem MOwn.nil (B : Nat) (w : World) (a : Option Addr) : MOwn B w a [] := fun i hi => absurd hi (by simp)
theorem MOwn.row {B : Nat} {w : World} {a : Option Addr} {l : List M} (h : MOwn B w a l) : MRow w a l := fun i hi => by
  obtain ⟨p, h1, _, h3, h4, h5, h6⟩ := h i hi
  exact ⟨p, h1, h3, h4, by rw [h5]; exact DRow.nil _ _, h6.row⟩
theorem MOwn.below {B : Nat} {w w' : World} {a : Option Addr} {l : List M} (h : MOwn B w a l) (hb : Below w.heap.size w w') : MOwn B w' a l := fun i hi => by
  obtain ⟨p, h1, h2, h3, h4, h5, h6⟩ := h i hi
  exact ⟨p, h1, h2, Nat.lt_of_lt_of_le h3 hb.size, fun j v hv => (hb.cell (by rw [add_block, add_block]; exact h3)).trans (h4 j v hv), h5, h6.below hb⟩
theorem MOwn.mono {B B' : Nat} {w : World} {a : Option Addr} {l : List M} (h : MOwn B w a l) (hB : B' ≤ B) : MOwn B' w a l := fun i hi => by
  obtain ⟨p, h1, h2, h3, h4, h5, h6⟩ := h i hi
  exact ⟨p, h1, Nat.le_trans hB h2, h3, h4, h5, lst_mono h6 hB⟩
theorem MOwn.under {B g : Nat} {w : World} {a : Option Addr} {l : List M} (h : MOwn B w a l) (hg : g < B) (cs : Array Value) : MOwn B (w.setRow g cs) a l := fun i hi => by
  obtain ⟨p, h1, h2, h3, h4, h5, h6⟩ := h i hi
  refine ⟨p, h1, h2, by simpa using h3, fun j v hv => ?_, h5, lst_under h6 hg cs⟩
  have hne : ((p.add (i * 25)).add j).block ≠ g := by rw [add_block, add_block]; omega
  have hb : Below (g + 1) (w.setRow g cs) (w.setRow g cs) := Below.refl _ _
  have := h4 j v hv
  unfold World.cell? at this ⊢
  rw [setRow_other w g _ cs hne]
  exact this
/-- What a step answers: what is known, messages (the list and their Subs are the call's own), an error. -/
def AnsC (p : Kx × List M × Int) (w : World) (e : Ending) (w' : World) : Prop :=
  ∃ a c l, e = .returned (.tuple #[.agg p.1.cells, .slice a l.length c, .int .i64 p.2.2]) ∧ PlL l p.2.1 ∧ MOwn w.heap.size w' a l ∧ Below w.heap.size w w'
theorem AnsC.no {p : Kx × List M × Int} {w w' : World} {c : Kx} {d : Int} (h : p = (c, [], d)) (hb : Below w.heap.size w w') : AnsC p w (.returned (.tuple #[.agg c.cells, .slice none 0 0, .int .i64 d])) w' := by
  subst h
  exact ⟨none, 0, [], rfl, PlL.nil, MOwn.nil _ _ _, hb⟩
theorem one_new {B : Nat} {w : World} {n : M} (h : n.ll = []) (hl : Sx.Lst B w (.slice n.sa n.sl.length n.sc) n.sl) (hB : B ≤ w.heap.size) : MOwn B (w.alloc (.cells n.cells 40)) (some ⟨w.heap.size, 0, none⟩) [n] := by
  intro i hi
  obtain rfl : i = 0 := by (simp at hi; exact hi)
  refine ⟨_, rfl, hB, by rw [alloc_size]; exact Nat.lt_succ_self _, fun j v hv => ?_, h, hl.below (balloc (Below.refl _ w) _)⟩
  have := cells_new n w j v hv
  rw [add_at] at this
  rw [add_at, add_at, Nat.zero_mul, Nat.add_zero]
  exact this
theorem AnsC.one {p : Kx × List M × Int} {w w' : World} {a : Option Addr} {c : Kx} {m n : M} {k : Nat} (h : p = (c, [m], 0)) (hp : Pl n m) (hn : MOwn w.heap.size w' a [n]) (hb : Below w.heap.size w w') : AnsC p w (.returned (.tuple #[.agg c.cells, .slice a 1 k, .int .i64 0])) w' := by
  subst h
  exact ⟨a, k, [n], rfl, PlL.one hp, hn, hb⟩

section
variable {H : Type} {enc : TypeId × Value → H} {W : World}
theorem open_msgP {fuel : Nat} {cs : List Value} {x : DataW H × List MemPlace} (h : DataW.trod enc Tryd.prog W 0 (fun _ => true) true fuel 40 cs = some x) :
    ∃ m : M, cs = m.cells.toList ∧ DRow W m.la m.ll ∧ SRow W m.sa m.sl ∧ m.pfx.size ≤ maxLen := by
  obtain ⟨m, rfl, hd, hs⟩ := open_msg h
  refine ⟨m, rfl, hd, hs, ?_⟩
  obtain ⟨_, n, go⟩ := each_field Tryd.underlying40 (by kernel_rfl) h
  obtain ⟨y6, h6⟩ := go 6 _ rfl
  obtain ⟨k6, e6, _, z6⟩ := DataW.trod_string Tryd.underlying9 (show DataW.trod enc Tryd.prog W 0 (fun _ => true) true n 9 [.string m.pfx] = some y6 from h6)
  have e : m.pfx = k6 := by
    have := (List.cons.inj e6).1
    injection this
  rw [e]
  exact z6
theorem by_valueP {base : Nat} {v : Value} {d : DataW H} {p : List MemPlace} (hv : Value.okWide Tryd.prog W .any base 40 v) (h : DataW.Trod enc Tryd.prog W 0 (fun _ => true) true 40 v d p) :
    ∃ m : M, v = .agg m.cells ∧ DRow W m.la m.ll ∧ SRow W m.sa m.sl ∧ m.pfx.size ≤ maxLen := by
  obtain ⟨cs, rfl, hsz⟩ := okWide_struct Tryd.underlying40 hv
  obtain ⟨fuel, hf⟩ := h
  obtain ⟨m, hm, hd, hs, hp⟩ := open_msgP hf
  have : cs = m.cells := Array.ext' hm
  subst this
  exact ⟨m, rfl, hd, hs, hp⟩
theorem cellsX : Tryd.prog.cellsOf 27 = 7 := by kernel_rfl
theorem trod_struct3 {t : TypeId} {f0 f1 f2 : Field} {fuel : Nat} {cs : List Value} {x : DataW H × List MemPlace} (ht : Tryd.prog.underlying t = some (.struct #[f0, f1, f2])) (h : DataW.trod enc Tryd.prog W 0 (fun _ => true) true fuel t cs = some x) :
    ∃ y0 y1 y2 n, cs.length = Tryd.prog.cellsOf t ∧ DataW.trod enc Tryd.prog W 0 (fun _ => true) true n f0.type ((cs.drop f0.offset).take (Tryd.prog.cellsOf f0.type)) = some y0 ∧
      DataW.trod enc Tryd.prog W 0 (fun _ => true) true n f1.type ((cs.drop f1.offset).take (Tryd.prog.cellsOf f1.type)) = some y1 ∧ DataW.trod enc Tryd.prog W 0 (fun _ => true) true n f2.type ((cs.drop f2.offset).take (Tryd.prog.cellsOf f2.type)) = some y2 := by
  obtain ⟨xs, n, _, rfl, hl, hlen, hf⟩ := DataW.trod_struct ht h
  match xs, hlen with
  | [y0, y1, y2], _ => exact ⟨y0, y1, y2, n, hl, by simpa using hf 0 f0 rfl, by simpa using hf 1 f1 rfl, by simpa using hf 2 f2 rfl⟩
theorem open_str {n : Nat} {c : Value} {y : DataW H × List MemPlace} (h : DataW.trod enc Tryd.prog W 0 (fun _ => true) true n 9 [c] = some y) : ∃ s : ByteArray, c = .string s ∧ s.size ≤ maxLen := by
  obtain ⟨k, e, _, z⟩ := DataW.trod_string Tryd.underlying9 h
  exact ⟨k, (List.cons.inj e).1, z⟩
theorem open_ctx {fuel : Nat} {cs : List Value} {x : DataW H × List MemPlace} (h : DataW.trod enc Tryd.prog W 0 (fun _ => true) true fuel 27 cs = some x) :
    ∃ c : Kx, cs = c.cells.toList ∧ c.p0.size ≤ maxLen ∧ c.p1.size ≤ maxLen ∧ c.p2.size ≤ maxLen ∧ c.p3.size ≤ maxLen ∧ c.n0.size ≤ maxLen ∧ c.n1.size ≤ maxLen ∧ c.id.size ≤ maxLen := by
  obtain ⟨y0, y1, y2, n, hlen, h0, h1, h2⟩ := trod_struct3 Tryd.underlying27 h
  rw [cellsX] at hlen
  have z4 : Tryd.prog.cellsOf 24 = 4 := by kernel_rfl
  have z2 : Tryd.prog.cellsOf 25 = 2 := by kernel_rfl
  have z1 : Tryd.prog.cellsOf 9 = 1 := by kernel_rfl
  match cs, hlen with
  | [c0, c1, c2, c3, c4, c5, c6], _ =>
    have h0 : DataW.trod enc Tryd.prog W 0 (fun _ => true) true n 24 [c0, c1, c2, c3] = some y0 := by
      have := h0
      rw [z4] at this
      exact this
    have h1 : DataW.trod enc Tryd.prog W 0 (fun _ => true) true n 25 [c4, c5] = some y1 := by
      have := h1
      rw [z2] at this
      exact this
    have h2 : DataW.trod enc Tryd.prog W 0 (fun _ => true) true n 9 [c6] = some y2 := by
      have := h2
      rw [z1] at this
      exact this
    obtain ⟨xs, m, _, _, _, hxl, hi⟩ := DataW.trod_array Tryd.underlying24 h0
    obtain ⟨ys, m', _, _, _, hyl, hj⟩ := DataW.trod_array Tryd.underlying25 h1
    have a0 := hi 0 (by decide)
    have a1 := hi 1 (by decide)
    have a2 := hi 2 (by decide)
    have a3 := hi 3 (by decide)
    have b0 := hj 0 (by decide)
    have b1 := hj 1 (by decide)
    rw [z1] at a0 a1 a2 a3 b0 b1
    rw [List.getElem?_eq_getElem (by omega)] at a0 a1 a2 a3 b0 b1
    obtain ⟨s0, rfl, q0⟩ := open_str (show DataW.trod enc Tryd.prog W 0 (fun _ => true) true m 9 [c0] = some _ from a0)
    obtain ⟨s1, rfl, q1⟩ := open_str (show DataW.trod enc Tryd.prog W 0 (fun _ => true) true m 9 [c1] = some _ from a1)
    obtain ⟨s2, rfl, q2⟩ := open_str (show DataW.trod enc Tryd.prog W 0 (fun _ => true) true m 9 [c2] = some _ from a2)
    obtain ⟨s3, rfl, q3⟩ := open_str (show DataW.trod enc Tryd.prog W 0 (fun _ => true) true m 9 [c3] = some _ from a3)
    obtain ⟨s4, rfl, q4⟩ := open_str (show DataW.trod enc Tryd.prog W 0 (fun _ => true) true m' 9 [c4] = some _ from b0)
    obtain ⟨s5, rfl, q5⟩ := open_str (show DataW.trod enc Tryd.prog W 0 (fun _ => true) true m' 9 [c5] = some _ from b1)
    obtain ⟨s6, rfl, q6⟩ := open_str h2
    exact ⟨⟨s0, s1, s2, s3, s4, s5, s6⟩, rfl, q0, q1, q2, q3, q4, q5, q6⟩
/-- No text is longer than any may be. -/
def Fit (c : Kx) : Prop := c.p0.size ≤ maxLen ∧ c.p1.size ≤ maxLen ∧ c.p2.size ≤ maxLen ∧ c.p3.size ≤ maxLen ∧ c.n0.size ≤ maxLen ∧ c.n1.size ≤ maxLen ∧ c.id.size ≤ maxLen
theorem by_ctx {base : Nat} {v : Value} {d : DataW H} {p : List MemPlace} (hv : Value.okWide Tryd.prog W .any base 27 v) (h : DataW.Trod enc Tryd.prog W 0 (fun _ => true) true 27 v d p) :
    ∃ c : Kx, v = .agg c.cells ∧ Fit c := by
  obtain ⟨cs, rfl, hsz⟩ := okWide_struct Tryd.underlying27 hv
  obtain ⟨fuel, hf⟩ := h
  obtain ⟨c, hm, hok⟩ := open_ctx hf
  have : cs = c.cells := Array.ext' hm
  subst this
  exact ⟨c, rfl, hok⟩
theorem by_tlvs {base : Nat} {v : Value} {d : DataW H} {p : List MemPlace} (hv : Value.okWide Tryd.prog W .any base 22 v) (h : DataW.Trod enc Tryd.prog W 0 (fun _ => true) true 22 v d p) :
    ∃ (a : Option Addr) (l : List T) (c : Nat), v = .slice a l.length c ∧ TRow W a l ∧ l.length ≤ 9223372036854775807 ∧ ∀ x ∈ l, x.2.1.size ≤ maxLen := by
  obtain ⟨fuel, hf⟩ := h
  have hvc := okWide_slice Tryd.underlying22 hv
  obtain ⟨va, vn, vc, rfl⟩ := hvc
  have hz : Tryd.prog.cellsOf 29 = 3 := Open.cellsTl
  rcases open_slice Tryd.underlying22 hf with h0 | ⟨a, len, cap, m, n, D, Pl, hcs, hb, hl, hm, hmm, hx, hi⟩
  · have e := h0.1
    simp [Value.cells] at e
    obtain ⟨rfl, rfl, rfl⟩ := e
    exact ⟨none, [], 0, rfl, TRow.nil _ _, by simp, fun x hx => absurd hx (by simp)⟩
  · simp [Value.cells] at hcs
    obtain ⟨rfl, rfl, rfl⟩ := hcs
    obtain ⟨l, hll, hr⟩ := els (n := vn) (R := fun i (x : T) => W.cell? (a.add (i * 3)) = some (.int .i64 x.2.2) ∧ W.cell? ((a.add (i * 3)).add 1) = some (.int .i64 x.1) ∧ W.cell? ((a.add (i * 3)).add 2) = some (.string x.2.1) ∧ x.2.1.size ≤ maxLen) (fun i hin => by
      obtain ⟨ds, hc, ht⟩ := hi i (by rw [hmm]; split <;> omega)
      rw [hz] at hc
      obtain ⟨b, s, t, hd, hs⟩ := Open.open_tlv ht
      subst hd
      obtain ⟨_, _, hat⟩ := World.cells?_some hc
      exact ⟨(b, (s, t)), hat 0 (by decide), hat 1 (by decide), hat 2 (by decide), hs⟩)
    refine ⟨some a, l, vc, by rw [hll], fun i hin => ⟨a, rfl, ?_, (hr i hin).1, (hr i hin).2.1, (hr i hin).2.2.1⟩, by unfold maxLen at hm; omega, fun x hx => ?_⟩
    · have := block_lt_of_cell (hr i hin).1
      rwa [add_block] at this
    · obtain ⟨i, hi, rfl⟩ := List.getElem_of_mem hx
      exact (hr i hi).2.2.2
end
end Go.Proofs.YteecialdkfaejaaDoor.Kb
