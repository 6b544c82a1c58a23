/-
  What came in, opened: a message by value, a list of messages: each is a message whose lists stand in the world.
  What is known as the program holds it: its block, loaded and stored whole; whether two are the same; lists of messages that are alike but for where their Subs stand; what a step answers; what came in, opened. No conditions.
-/
import Derived.Test.YtbfjebfodaoikaaGreatDoorA02
import Derived.Test.YtbfjebfodaoikaaGreatDoorA03
import Derived.Test.YtbfjebfodaoikaaGreatDoorA06
import Derived.Test.YtbfjebfodaoikaaGreatDoorA10
import Derived.Deep.Slices
import Derived.Deep.Fields
import Derived.ChangeSame
import Derived.Carry
import Derived.Lib.SmallJoins
namespace Go.Proofs.YtbfjebfodaoikaaGreatDoor.Open
open Go.ChangeShapes Go.WideShapes Go.ChangeAt Go.RowKit Go.Deep
open Go.Proofs.YtbfjebfodaoikaaGreatDoor.Ms
open Go.Proofs.YtbfjebfodaoikaaGreatDoor.Box
open Go.Proofs.YtbfjebfodaoikaaGreatDoor.Few
set_option linter.unusedVariables false
set_option maxRecDepth 100000

section
variable {H : Type} {enc : TypeId × Value → H} {W : World}

/-- A struct whose fields take one cell each reads field by field: field j's reading is that of cell j. -/
theorem each_field {t : TypeId} {fds : Array Field} (ht : Tryz.prog.underlying t = some (.struct fds)) (hone : oneCellFields Tryz.prog fds = true) {fuel : Nat} {cs : List Value} {x : DataW H × List MemPlace}
    (h : DataW.trod enc Tryz.prog W 0 (fun _ => true) true fuel t cs = some x) :
    cs.length = Tryz.prog.cellsOf t ∧ ∃ n, ∀ (j : Nat) (f : Field), fds[j]? = some f → ∃ y, DataW.trod enc Tryz.prog W 0 (fun _ => true) true n f.type ((cs.drop j).take 1) = some y := by
  obtain ⟨xs, n, _, _, hlen, hxl, hf⟩ := DataW.trod_struct ht h
  refine ⟨hlen, n, fun j f hj => ?_⟩
  have h1 := hf j f hj
  rw [(hone_of hone j f hj).1, (hone_of hone j f hj).2] at h1
  have hjl : j < xs.length := by rw [hxl]; exact (Array.getElem?_eq_some_iff.1 hj).1
  exact ⟨xs[j], h1.trans (List.getElem?_eq_getElem hjl)⟩

theorem els {α : Type} {n : Nat} {R : Nat → α → Prop} (h : ∀ i, i < n → ∃ x, R i x) : ∃ l : List α, l.length = n ∧ ∀ i (hi : i < l.length), R i l[i] := by
  induction n with
  | zero => exact ⟨[], rfl, fun i hi => absurd hi (by simp)⟩
  | succ n ih =>
    obtain ⟨l, hl, hr⟩ := ih fun i hi => h i (by omega)
    obtain ⟨x, hx⟩ := h n (by omega)
    refine ⟨l ++ [x], by simp [hl], fun i hi => ?_⟩
    by_cases hin : i < l.length
    · rw [List.getElem_append_left hin]; exact hr i hin
    · obtain rfl : i = l.length := by simp at hi; omega
      rw [List.getElem_append_right (Nat.le_refl _)]
      simp only [Nat.sub_self, List.getElem_cons_zero]
      rw [hl]; exact hx

theorem open_dests {fuel : Nat} {cs : List Value} {x : DataW H × List MemPlace} (h : DataW.trod enc Tryz.prog W 0 (fun _ => true) true fuel 26 cs = some x) :
    ∃ (a : Option Addr) (l : List El) (c : Nat), cs = [.slice a l.length c] ∧ DRow W a l ∧ l.length ≤ 9223372036854775807 := by
  have hz : Tryz.prog.cellsOf 40 = 2 := by kernel_rfl
  rcases open_slice Tryz.underlying26 h with h0 | ⟨a, len, cap, m, n, D, Pl, hcs, _, hl, hm, hmm, _, hi⟩
  · exact ⟨none, [], 0, h0.1, DRow.nil _ _, by simp⟩
  · obtain ⟨l, hll, hr⟩ := els (n := len) (R := fun i (x : El) => W.cell? (a.add (i * 2)) = some (.string x.1) ∧ W.cell? ((a.add (i * 2)).add 1) = some (.int .i64 x.2)) (fun i hin => by
      obtain ⟨ds, hc, ht⟩ := hi i (by rw [hmm]; split <;> omega)
      rw [hz] at hc
      obtain ⟨hlen, k, hf⟩ := each_field Tryz.underlying40 (by kernel_rfl) ht
      rw [hz] at hlen
      obtain ⟨_, _, hat⟩ := World.cells?_some hc
      have e0 := hat 0 (by decide)
      have e1 := hat 1 (by decide)
      match ds, hlen with
      | [d0, d1], _ =>
        obtain ⟨y0, g0⟩ := hf 0 _ rfl
        obtain ⟨y1, g1⟩ := hf 1 _ rfl
        obtain ⟨u0, q0, _, _⟩ := DataW.trod_string Tryz.underlying9 (show DataW.trod enc Tryz.prog W 0 (fun _ => true) true k 9 [d0] = some y0 from g0)
        obtain ⟨u1, q1, _, _⟩ := DataW.trod_int Tryz.underlying3 (show DataW.trod enc Tryz.prog W 0 (fun _ => true) true k 3 [d1] = some y1 from g1)
        obtain rfl := (List.cons.inj q0).1
        obtain rfl := (List.cons.inj q1).1
        exact ⟨(u0, u1), e0, e1⟩)
    refine ⟨some a, l, cap, by rw [hll]; exact hcs, fun i hin => ⟨a, rfl, ?_, hr i hin⟩, by unfold maxLen at hm; omega⟩
    have := block_lt_of_cell (hr i hin).1
    rwa [add_block] at this
theorem open_subs {fuel : Nat} {cs : List Value} {x : DataW H × List MemPlace} (h : DataW.trod enc Tryz.prog W 0 (fun _ => true) true fuel 27 cs = some x) :
    ∃ (a : Option Addr) (l : List El) (c : Nat), cs = [.slice a l.length c] ∧ SRow W a l ∧ l.length ≤ 9223372036854775807 := by
  have hz : Tryz.prog.cellsOf 42 = 2 := by kernel_rfl
  rcases open_slice Tryz.underlying27 h with h0 | ⟨a, len, cap, m, n, D, Pl, hcs, _, hl, hm, hmm, _, hi⟩
  · exact ⟨none, [], 0, h0.1, SRow.nil _ _, by simp⟩
  · obtain ⟨l, hll, hr⟩ := els (n := len) (R := fun i (x : El) => W.cell? (a.add (i * 2)) = some (.int .i64 x.2) ∧ W.cell? ((a.add (i * 2)).add 1) = some (.string x.1)) (fun i hin => by
      obtain ⟨ds, hc, ht⟩ := hi i (by rw [hmm]; split <;> omega)
      rw [hz] at hc
      obtain ⟨hlen, k, hf⟩ := each_field Tryz.underlying42 (by kernel_rfl) ht
      rw [hz] at hlen
      obtain ⟨_, _, hat⟩ := World.cells?_some hc
      have e0 := hat 0 (by decide)
      have e1 := hat 1 (by decide)
      match ds, hlen with
      | [d0, d1], _ =>
        obtain ⟨y0, g0⟩ := hf 0 _ rfl
        obtain ⟨y1, g1⟩ := hf 1 _ rfl
        obtain ⟨u0, q0, _, _⟩ := DataW.trod_int Tryz.underlying3 (show DataW.trod enc Tryz.prog W 0 (fun _ => true) true k 3 [d0] = some y0 from g0)
        obtain ⟨u1, q1, _, _⟩ := DataW.trod_string Tryz.underlying9 (show DataW.trod enc Tryz.prog W 0 (fun _ => true) true k 9 [d1] = some y1 from g1)
        obtain rfl := (List.cons.inj q0).1
        obtain rfl := (List.cons.inj q1).1
        exact ⟨(u1, u0), e0, e1⟩)
    refine ⟨some a, l, cap, by rw [hll]; exact hcs, fun i hin => ⟨a, rfl, ?_, hr i hin⟩, by unfold maxLen at hm; omega⟩
    have := block_lt_of_cell (hr i hin).1
    rwa [add_block] at this

theorem cellsM : Tryz.prog.cellsOf 29 = 25 := by kernel_rfl

set_option maxHeartbeats 1600000 in
theorem open_msg {fuel : Nat} {cs : List Value} {x : DataW H × List MemPlace} (h : DataW.trod enc Tryz.prog W 0 (fun _ => true) true fuel 29 cs = some x) :
    ∃ m : M, cs = m.cells.toList ∧ DRow W m.la m.ll ∧ SRow W m.sa m.sl := by
  obtain ⟨hlen, n, go⟩ := each_field Tryz.underlying29 (by kernel_rfl) h
  rw [cellsM] at hlen
  clear h
  match cs, hlen with
  | [c0, c1, c2, c3, c4, c5, c6, c7, c8, c9, c10, c11, c12, c13, c14, c15, c16, c17, c18, c19, c20, c21, c22, c23, c24], _ =>
    obtain ⟨y0, h0⟩ := go 0 _ rfl
    obtain ⟨k0, e0, _, _⟩ := DataW.trod_int Tryz.underlying3 (show DataW.trod enc Tryz.prog W 0 (fun _ => true) true n 3 [c0] = some y0 from h0)
    obtain rfl := (List.cons.inj e0).1
    clear e0
    obtain ⟨y1, h1⟩ := go 1 _ rfl
    obtain ⟨k1, e1, _, _⟩ := DataW.trod_int Tryz.underlying3 (show DataW.trod enc Tryz.prog W 0 (fun _ => true) true n 3 [c1] = some y1 from h1)
    obtain rfl := (List.cons.inj e1).1
    clear e1
    obtain ⟨y2, h2⟩ := go 2 _ rfl
    obtain ⟨k2, e2, _, _⟩ := DataW.trod_int Tryz.underlying3 (show DataW.trod enc Tryz.prog W 0 (fun _ => true) true n 3 [c2] = some y2 from h2)
    obtain rfl := (List.cons.inj e2).1
    clear e2
    obtain ⟨y3, h3⟩ := go 3 _ rfl
    obtain ⟨k3, e3, _, _⟩ := DataW.trod_string Tryz.underlying9 (show DataW.trod enc Tryz.prog W 0 (fun _ => true) true n 9 [c3] = some y3 from h3)
    obtain rfl := (List.cons.inj e3).1
    clear e3
    obtain ⟨y4, h4⟩ := go 4 _ rfl
    obtain ⟨k4, e4, _, _⟩ := DataW.trod_int Tryz.underlying3 (show DataW.trod enc Tryz.prog W 0 (fun _ => true) true n 3 [c4] = some y4 from h4)
    obtain rfl := (List.cons.inj e4).1
    clear e4
    obtain ⟨y5, h5⟩ := go 5 _ rfl
    obtain ⟨k5, e5, _, _⟩ := DataW.trod_int Tryz.underlying3 (show DataW.trod enc Tryz.prog W 0 (fun _ => true) true n 3 [c5] = some y5 from h5)
    obtain rfl := (List.cons.inj e5).1
    clear e5
    obtain ⟨y6, h6⟩ := go 6 _ rfl
    obtain ⟨k6, e6, _, _⟩ := DataW.trod_string Tryz.underlying9 (show DataW.trod enc Tryz.prog W 0 (fun _ => true) true n 9 [c6] = some y6 from h6)
    obtain rfl := (List.cons.inj e6).1
    clear e6
    obtain ⟨y7, h7⟩ := go 7 _ rfl
    obtain ⟨k7, e7, _, _⟩ := DataW.trod_int Tryz.underlying3 (show DataW.trod enc Tryz.prog W 0 (fun _ => true) true n 3 [c7] = some y7 from h7)
    obtain rfl := (List.cons.inj e7).1
    clear e7
    obtain ⟨y8, h8⟩ := go 8 _ rfl
    obtain ⟨k8, e8, _, _⟩ := DataW.trod_int Tryz.underlying3 (show DataW.trod enc Tryz.prog W 0 (fun _ => true) true n 3 [c8] = some y8 from h8)
    obtain rfl := (List.cons.inj e8).1
    clear e8
    obtain ⟨y9, h9⟩ := go 9 _ rfl
    obtain ⟨k9, e9, _, _⟩ := DataW.trod_string Tryz.underlying9 (show DataW.trod enc Tryz.prog W 0 (fun _ => true) true n 9 [c9] = some y9 from h9)
    obtain rfl := (List.cons.inj e9).1
    clear e9
    obtain ⟨y10, h10⟩ := go 10 _ rfl
    obtain ⟨k10, e10, _, _⟩ := DataW.trod_int Tryz.underlying3 (show DataW.trod enc Tryz.prog W 0 (fun _ => true) true n 3 [c10] = some y10 from h10)
    obtain rfl := (List.cons.inj e10).1
    clear e10
    obtain ⟨y11, h11⟩ := go 11 _ rfl
    obtain ⟨k11, e11, _, _⟩ := DataW.trod_string Tryz.underlying9 (show DataW.trod enc Tryz.prog W 0 (fun _ => true) true n 9 [c11] = some y11 from h11)
    obtain rfl := (List.cons.inj e11).1
    clear e11
    obtain ⟨y12, h12⟩ := go 12 _ rfl
    obtain ⟨k12, e12, _, _⟩ := DataW.trod_int Tryz.underlying3 (show DataW.trod enc Tryz.prog W 0 (fun _ => true) true n 3 [c12] = some y12 from h12)
    obtain rfl := (List.cons.inj e12).1
    clear e12
    obtain ⟨y13, h13⟩ := go 13 _ rfl
    obtain ⟨k13, e13, _, _⟩ := DataW.trod_int Tryz.underlying3 (show DataW.trod enc Tryz.prog W 0 (fun _ => true) true n 3 [c13] = some y13 from h13)
    obtain rfl := (List.cons.inj e13).1
    clear e13
    obtain ⟨y14, h14⟩ := go 14 _ rfl
    obtain ⟨k14, e14, _, _⟩ := DataW.trod_int Tryz.underlying3 (show DataW.trod enc Tryz.prog W 0 (fun _ => true) true n 3 [c14] = some y14 from h14)
    obtain rfl := (List.cons.inj e14).1
    clear e14
    obtain ⟨y15, h15⟩ := go 15 _ rfl
    obtain ⟨k15, e15, _, _⟩ := DataW.trod_int Tryz.underlying3 (show DataW.trod enc Tryz.prog W 0 (fun _ => true) true n 3 [c15] = some y15 from h15)
    obtain rfl := (List.cons.inj e15).1
    clear e15
    obtain ⟨y16, h16⟩ := go 16 _ rfl
    obtain ⟨k16, e16, _, _⟩ := DataW.trod_int Tryz.underlying3 (show DataW.trod enc Tryz.prog W 0 (fun _ => true) true n 3 [c16] = some y16 from h16)
    obtain rfl := (List.cons.inj e16).1
    clear e16
    obtain ⟨y17, h17⟩ := go 17 _ rfl
    obtain ⟨k17, e17, _, _⟩ := DataW.trod_int Tryz.underlying3 (show DataW.trod enc Tryz.prog W 0 (fun _ => true) true n 3 [c17] = some y17 from h17)
    obtain rfl := (List.cons.inj e17).1
    clear e17
    obtain ⟨y18, h18⟩ := go 18 _ rfl
    obtain ⟨k18, e18, _, _⟩ := DataW.trod_int Tryz.underlying3 (show DataW.trod enc Tryz.prog W 0 (fun _ => true) true n 3 [c18] = some y18 from h18)
    obtain rfl := (List.cons.inj e18).1
    clear e18
    obtain ⟨y19, h19⟩ := go 19 _ rfl
    obtain ⟨k19, e19, _, _⟩ := DataW.trod_string Tryz.underlying9 (show DataW.trod enc Tryz.prog W 0 (fun _ => true) true n 9 [c19] = some y19 from h19)
    obtain rfl := (List.cons.inj e19).1
    clear e19
    obtain ⟨y20, h20⟩ := go 20 _ rfl
    obtain ⟨k20, e20, _, _⟩ := DataW.trod_string Tryz.underlying9 (show DataW.trod enc Tryz.prog W 0 (fun _ => true) true n 9 [c20] = some y20 from h20)
    obtain rfl := (List.cons.inj e20).1
    clear e20
    obtain ⟨y21, h21⟩ := go 21 _ rfl
    obtain ⟨a21, l21, n21, e21, r21, _⟩ := open_dests (show DataW.trod enc Tryz.prog W 0 (fun _ => true) true n 26 [c21] = some y21 from h21)
    obtain rfl := (List.cons.inj e21).1
    clear e21
    obtain ⟨y22, h22⟩ := go 22 _ rfl
    obtain ⟨k22, e22, _, _⟩ := DataW.trod_int Tryz.underlying3 (show DataW.trod enc Tryz.prog W 0 (fun _ => true) true n 3 [c22] = some y22 from h22)
    obtain rfl := (List.cons.inj e22).1
    clear e22
    obtain ⟨y23, h23⟩ := go 23 _ rfl
    obtain ⟨k23, e23, _, _⟩ := DataW.trod_string Tryz.underlying9 (show DataW.trod enc Tryz.prog W 0 (fun _ => true) true n 9 [c23] = some y23 from h23)
    obtain rfl := (List.cons.inj e23).1
    clear e23
    obtain ⟨y24, h24⟩ := go 24 _ rfl
    obtain ⟨a24, l24, n24, e24, r24, _⟩ := open_subs (show DataW.trod enc Tryz.prog W 0 (fun _ => true) true n 27 [c24] = some y24 from h24)
    obtain rfl := (List.cons.inj e24).1
    clear e24
    exact ⟨⟨k0, k1, k2, k3, k4, k5, k6, k7, k8, k9, k10, k11, k12, k13, k14, k15, k16, k17, k18, k19, k20, a21, l21, n21, k22, k23, a24, l24, n24⟩, rfl, r21, r24⟩

theorem laidOut : laidOutB Tryz.prog = true := by kernel_rfl
theorem again {t : TypeId} (hr : Tryz.prog.readableRec t = true) (hrow : t < Tryz.prog.types.size) {W' : World} {v : Value} {d : DataW H} {ps : List MemPlace}
    (h : DataW.Trod enc Tryz.prog W 0 (fun _ => true) true t v d ps) (hb : Below W.heap.size W W') (hlt : ∀ x ∈ ps, x.block < W.heap.size) :
    DataW.Trod enc Tryz.prog W' 0 (fun b => decide (b < W.heap.size)) true t v d ps := Below.trod laidOut hr hrow h hb hlt
end
end Go.Proofs.YtbfjebfodaoikaaGreatDoor.Open
namespace Go.Proofs.YtbfjebfodaoikaaGreatDoor.Kb
open Go.ChangeShapes Go.WideShapes Go.ChangeAt Go.RowKit Go.Joins
open Go.Proofs.YtbfjebfodaoikaaGreatDoor.Ms
open Go.Proofs.YtbfjebfodaoikaaGreatDoor.Box
open Go.Proofs.YtbfjebfodaoikaaGreatDoor.An
open Go.Proofs.YtbfjebfodaoikaaGreatDoor.K1
open Go.Proofs.YtbfjebfodaoikaaGreatDoor.F1 (T)
open Go.Proofs.YtbfjebfodaoikaaGreatDoor.Ap (add_at)
open Go.Proofs.YtbfjebfodaoikaaGreatDoor.Open (each_field els open_msg)
open Go.Proofs.YtbfjebfodaoikaaGreatDoor.Bk (Bk Sh alloc_size wpList_loadK wpList_storeK run_loadK)
open Go.Deep
set_option linter.unusedVariables false
set_option maxRecDepth 100000
set_option maxRecDepth 100000
theorem shX : Sh Tryz.prog 25 7 := ⟨_, Tryz.underlying25, by kernel_rfl⟩
theorem oneX (x : Kx) : (x.cells.all fun x => x.oneCell') = true := by simp [Kx.cells, Value.oneCell']
theorem wpList_loadX {ops : Array Oper} {rest : List Oper} {o : Oper} {a : Act} {w : World} {Q : Exit → Act → World → Prop} (hgd : o.guard = none) (x : Operand) (ho : o.op = .load 25 x) {b : Nat} (hx : a.eval x = .pointer (some ⟨b, 0, none⟩)) {m : Kx} (hb : Bk 25 w b m.cells)
    (h : wpList Tryz.prog ops Q rest (a.put o.dst (.agg m.cells)) w) : wpList Tryz.prog ops Q (o :: rest) a w := wpList_loadK shX hgd x ho hx hb rfl h
theorem wpList_storeX {ops : Array Oper} {rest : List Oper} {o : Oper} {a : Act} {w : World} {Q : Exit → Act → World → Prop} (hgd : o.guard = none) (x y : Operand) (ho : o.op = .store 25 x y) {b : Nat} (hx : a.eval x = .pointer (some ⟨b, 0, none⟩)) {m m' : Kx} (hy : a.eval y = .agg m'.cells) (hb : Bk 25 w b m.cells)
    (h : wpList Tryz.prog ops Q rest (a.put o.dst undef) (w.setRow b m'.cells)) : wpList Tryz.prog ops Q (o :: rest) a w := wpList_storeK shX hgd x y ho hx hy hb rfl rfl (oneX m') h

/-- What is the same as itself. -/
theorem eq_arr {P : Program} {W : World} (d : Nat) (t e : TypeId) (n : Nat) (xs : Array Value) (ht : P.underlying t = some (.array n e))
    (hz : (sizeOf e).run P W = .ok 1 W) (hx : ∀ i, i < n → ∃ a, (part e xs i).run P W = .ok a W ∧ (Op.equalIn d e a a).run P W = .ok true W) : (Op.equalIn (d + 1) t (.agg xs) (.agg xs)).run P W = .ok true W := by
  simp only [Op.equalIn, Sem.run_bind, run_underlying ht, Result.andThen_ok, hz]
  rw [Std.Legacy.Range.forIn_eq_forIn_range']
  simp only [Std.Legacy.Range.size, Nat.sub_zero, Nat.add_one_sub_one, Nat.div_one]
  have hl : ∀ i ∈ List.range' 0 n 1, i < n := fun i hi => by simp at hi; exact hi
  generalize List.range' 0 n 1 = l at *
  induction l with
  | nil => simp
  | cons i l ih =>
    obtain ⟨a, ha, hq⟩ := hx i (hl i (by simp))
    simp only [List.forIn_cons, Sem.run_bind, Nat.mul_one, ha, Result.andThen_ok, hq, Bool.not_true, Bool.false_eq_true, if_false, Sem.run_pure]
    have := ih (fun j hj => hl j (by simp [hj]))
    simp only [Nat.mul_one] at this
    exact this
theorem eqF_same {P : Program} {W : World} {d : Nat} {f : Field} {fs : List Field} {xs : Array Value} {a : Value} {r : Bool} (hn : f.name ≠ "_")
    (hx : (part f.type xs f.offset).run P W = .ok a W) (hq : (Op.equalIn d f.type a a).run P W = .ok true W) (h : (Op.eqFields d xs xs fs).run P W = .ok r W) :
    (Op.eqFields d xs xs (f :: fs)).run P W = .ok r W := by
  simp only [Op.eqFields, ne_eq, hn, not_false_eq_true, if_true, Sem.run_bind, hx, Result.andThen_ok, hq, Bool.not_true, Bool.false_eq_true, if_false, h]
theorem size_str (W : World) : (sizeOf 9).run Tryz.prog W = .ok 1 W := by go_simp
theorem eq_four (d : Nat) (a b c e : ByteArray) (W : World) : (Op.equalIn (d + 2) 22 (.agg #[.string a, .string b, .string c, .string e]) (.agg #[.string a, .string b, .string c, .string e])).run Tryz.prog W = .ok true W := by
  refine eq_arr (d + 1) 22 9 4 _ Tryz.underlying22 (size_str W) fun i hi => ?_
  have hs : ∀ x, (Op.equalIn (d + 1) 9 (.string x) (.string x)).run Tryz.prog W = .ok true W := fun x => by rw [run_equalIn_string W d 9 x x Tryz.underlying9]; simp
  rcases (show i = 0 ∨ i = 1 ∨ i = 2 ∨ i = 3 by omega) with rfl | rfl | rfl | rfl
  · exact ⟨_, rfl, hs a⟩
  · exact ⟨_, rfl, hs b⟩
  · exact ⟨_, rfl, hs c⟩
  · exact ⟨_, rfl, hs e⟩
theorem eq_two (d : Nat) (a b : ByteArray) (W : World) : (Op.equalIn (d + 2) 23 (.agg #[.string a, .string b]) (.agg #[.string a, .string b])).run Tryz.prog W = .ok true W := by
  refine eq_arr (d + 1) 23 9 2 _ Tryz.underlying23 (size_str W) fun i hi => ?_
  have hs : ∀ x, (Op.equalIn (d + 1) 9 (.string x) (.string x)).run Tryz.prog W = .ok true W := fun x => by rw [run_equalIn_string W d 9 x x Tryz.underlying9]; simp
  rcases (show i = 0 ∨ i = 1 by omega) with rfl | rfl
  · exact ⟨_, rfl, hs a⟩
  · exact ⟨_, rfl, hs b⟩
theorem eqX (c : Kx) (W : World) : (Op.equalIn 10000 25 (.agg c.cells) (.agg c.cells)).run Tryz.prog W = .ok true W := by
  have hf : Tryz.prog.underlying 25 = some (.struct (Tryz.prog.fieldsOf 25)) := by kernel_rfl
  have hp : Tryz.prog.stoodInHeld 25 = false := by kernel_rfl
  rw [run_equalIn_struct W 9999 25 _ _ hf hp]
  simp only [Program.fieldsOf, Tryz.underlying25]
  refine eqF_same (a := .agg #[.string c.p0, .string c.p1, .string c.p2, .string c.p3]) (by decide) rfl (eq_four 9997 _ _ _ _ W) ?_
  refine eqF_same (a := .agg #[.string c.n0, .string c.n1]) (by decide) rfl (eq_two 9997 _ _ W) ?_
  refine eqF_same (a := .string c.id) (by decide) rfl (by rw [run_equalIn_string W 9998 9 _ _ Tryz.underlying9]; simp) ?_
  rfl
theorem eql_X (c : Kx) (W : World) : (binOp .eql 25 (.agg c.cells) (.agg c.cells)).run Tryz.prog W = .ok (.bool true) W := by rw [run_eql_struct, eqX]; rfl
theorem guard_X (op : BinOp) (x y : Operand) (a b : Array Value) (W : World) : (eqGuard op 25 x y (.agg a) (.agg b)).run Tryz.prog W = .ok () W := run_eqGuard_agg W op _ x y _ _ (by kernel_rfl)
theorem ex_eqX {o : Oper} {ρ : Operand → Value} {x y : Operand} {c : Kx} {w : World} (ho : o.op = .binOp .eql 25 x y 25) (hx : ρ x = .agg c.cells) (hy : ρ y = .agg c.cells) : (execOp ρ o).run Tryz.prog w = .ok (.value (.bool true)) w := by
  unfold execOp
  simp only [ho, hx, hy, Sem.run_bind, guard_X, Result.andThen_ok, eql_X, Sem.run_pure]
section
variable {H : Type} {enc : TypeId × Value → H} {W : World}
theorem open_msgP {fuel : Nat} {cs : List Value} {x : DataW H × List MemPlace} (h : DataW.trod enc Tryz.prog W 0 (fun _ => true) true fuel 29 cs = some x) :
    ∃ m : M, cs = m.cells.toList ∧ DRow W m.la m.ll ∧ SRow W m.sa m.sl ∧ m.pfx.size ≤ maxLen := by
  obtain ⟨m, rfl, hd, hs⟩ := open_msg h
  refine ⟨m, rfl, hd, hs, ?_⟩
  obtain ⟨_, n, go⟩ := each_field Tryz.underlying29 (by kernel_rfl) h
  obtain ⟨y6, h6⟩ := go 6 _ rfl
  obtain ⟨k6, e6, _, z6⟩ := DataW.trod_string Tryz.underlying9 (show DataW.trod enc Tryz.prog W 0 (fun _ => true) true n 9 [.string m.pfx] = some y6 from h6)
  have e : m.pfx = k6 := by
    have := (List.cons.inj e6).1
    injection this
  rw [e]
  exact z6
theorem by_valueP {base : Nat} {v : Value} {d : DataW H} {p : List MemPlace} (hv : Value.okWide Tryz.prog W .any base 29 v) (h : DataW.Trod enc Tryz.prog W 0 (fun _ => true) true 29 v d p) :
    ∃ m : M, v = .agg m.cells ∧ DRow W m.la m.ll ∧ SRow W m.sa m.sl ∧ m.pfx.size ≤ maxLen := by
  obtain ⟨cs, rfl, hsz⟩ := okWide_struct Tryz.underlying29 hv
  obtain ⟨fuel, hf⟩ := h
  obtain ⟨m, hm, hd, hs, hp⟩ := open_msgP hf
  have : cs = m.cells := Array.ext' hm
  subst this
  exact ⟨m, rfl, hd, hs, hp⟩
theorem cellsX : Tryz.prog.cellsOf 25 = 7 := by kernel_rfl
theorem trod_struct3 {t : TypeId} {f0 f1 f2 : Field} {fuel : Nat} {cs : List Value} {x : DataW H × List MemPlace} (ht : Tryz.prog.underlying t = some (.struct #[f0, f1, f2])) (h : DataW.trod enc Tryz.prog W 0 (fun _ => true) true fuel t cs = some x) :
    ∃ y0 y1 y2 n, cs.length = Tryz.prog.cellsOf t ∧ DataW.trod enc Tryz.prog W 0 (fun _ => true) true n f0.type ((cs.drop f0.offset).take (Tryz.prog.cellsOf f0.type)) = some y0 ∧
      DataW.trod enc Tryz.prog W 0 (fun _ => true) true n f1.type ((cs.drop f1.offset).take (Tryz.prog.cellsOf f1.type)) = some y1 ∧ DataW.trod enc Tryz.prog W 0 (fun _ => true) true n f2.type ((cs.drop f2.offset).take (Tryz.prog.cellsOf f2.type)) = some y2 := by
  obtain ⟨xs, n, _, rfl, hl, hlen, hf⟩ := DataW.trod_struct ht h
  match xs, hlen with
  | [y0, y1, y2], _ => exact ⟨y0, y1, y2, n, hl, by simpa using hf 0 f0 rfl, by simpa using hf 1 f1 rfl, by simpa using hf 2 f2 rfl⟩
theorem open_str {n : Nat} {c : Value} {y : DataW H × List MemPlace} (h : DataW.trod enc Tryz.prog W 0 (fun _ => true) true n 9 [c] = some y) : ∃ s : ByteArray, c = .string s ∧ s.size ≤ maxLen := by
  obtain ⟨k, e, _, z⟩ := DataW.trod_string Tryz.underlying9 h
  exact ⟨k, (List.cons.inj e).1, z⟩
theorem open_ctx {fuel : Nat} {cs : List Value} {x : DataW H × List MemPlace} (h : DataW.trod enc Tryz.prog W 0 (fun _ => true) true fuel 25 cs = some x) :
    ∃ c : Kx, cs = c.cells.toList ∧ c.p0.size ≤ maxLen ∧ c.p1.size ≤ maxLen ∧ c.p2.size ≤ maxLen ∧ c.p3.size ≤ maxLen ∧ c.n0.size ≤ maxLen ∧ c.n1.size ≤ maxLen ∧ c.id.size ≤ maxLen := by
  obtain ⟨y0, y1, y2, n, hlen, h0, h1, h2⟩ := trod_struct3 Tryz.underlying25 h
  rw [cellsX] at hlen
  have z4 : Tryz.prog.cellsOf 22 = 4 := by kernel_rfl
  have z2 : Tryz.prog.cellsOf 23 = 2 := by kernel_rfl
  have z1 : Tryz.prog.cellsOf 9 = 1 := by kernel_rfl
  match cs, hlen with
  | [c0, c1, c2, c3, c4, c5, c6], _ =>
    have h0 : DataW.trod enc Tryz.prog W 0 (fun _ => true) true n 22 [c0, c1, c2, c3] = some y0 := by
      have := h0
      rw [z4] at this
      exact this
    have h1 : DataW.trod enc Tryz.prog W 0 (fun _ => true) true n 23 [c4, c5] = some y1 := by
      have := h1
      rw [z2] at this
      exact this
    have h2 : DataW.trod enc Tryz.prog W 0 (fun _ => true) true n 9 [c6] = some y2 := by
      have := h2
      rw [z1] at this
      exact this
    obtain ⟨xs, m, _, _, _, hxl, hi⟩ := DataW.trod_array Tryz.underlying22 h0
    obtain ⟨ys, m', _, _, _, hyl, hj⟩ := DataW.trod_array Tryz.underlying23 h1
    have a0 := hi 0 (by decide)
    have a1 := hi 1 (by decide)
    have a2 := hi 2 (by decide)
    have a3 := hi 3 (by decide)
    have b0 := hj 0 (by decide)
    have b1 := hj 1 (by decide)
    rw [z1] at a0 a1 a2 a3 b0 b1
    rw [List.getElem?_eq_getElem (by omega)] at a0 a1 a2 a3 b0 b1
    obtain ⟨s0, rfl, q0⟩ := open_str (show DataW.trod enc Tryz.prog W 0 (fun _ => true) true m 9 [c0] = some _ from a0)
    obtain ⟨s1, rfl, q1⟩ := open_str (show DataW.trod enc Tryz.prog W 0 (fun _ => true) true m 9 [c1] = some _ from a1)
    obtain ⟨s2, rfl, q2⟩ := open_str (show DataW.trod enc Tryz.prog W 0 (fun _ => true) true m 9 [c2] = some _ from a2)
    obtain ⟨s3, rfl, q3⟩ := open_str (show DataW.trod enc Tryz.prog W 0 (fun _ => true) true m 9 [c3] = some _ from a3)
    obtain ⟨s4, rfl, q4⟩ := open_str (show DataW.trod enc Tryz.prog W 0 (fun _ => true) true m' 9 [c4] = some _ from b0)
    obtain ⟨s5, rfl, q5⟩ := open_str (show DataW.trod enc Tryz.prog W 0 (fun _ => true) true m' 9 [c5] = some _ from b1)
    obtain ⟨s6, rfl, q6⟩ := open_str h2
    exact ⟨⟨s0, s1, s2, s3, s4, s5, s6⟩, rfl, q0, q1, q2, q3, q4, q5, q6⟩
/-- No text is longer than any may be. -/
def Fit (c : Kx) : Prop := c.p0.size ≤ maxLen ∧ c.p1.size ≤ maxLen ∧ c.p2.size ≤ maxLen ∧ c.p3.size ≤ maxLen ∧ c.n0.size ≤ maxLen ∧ c.n1.size ≤ maxLen ∧ c.id.size ≤ maxLen
theorem by_ctx {base : Nat} {v : Value} {d : DataW H} {p : List MemPlace} (hv : Value.okWide Tryz.prog W .any base 25 v) (h : DataW.Trod enc Tryz.prog W 0 (fun _ => true) true 25 v d p) :
    ∃ c : Kx, v = .agg c.cells ∧ Fit c := by
  obtain ⟨cs, rfl, hsz⟩ := okWide_struct Tryz.underlying25 hv
  obtain ⟨fuel, hf⟩ := h
  obtain ⟨c, hm, hok⟩ := open_ctx hf
  have : cs = c.cells := Array.ext' hm
  subst this
  exact ⟨c, rfl, hok⟩
end
end Go.Proofs.YtbfjebfodaoikaaGreatDoor.Kb
