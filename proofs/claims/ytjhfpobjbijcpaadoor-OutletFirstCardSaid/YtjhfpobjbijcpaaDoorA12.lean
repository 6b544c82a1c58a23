/-
  What came in, opened: a message by value, a list of messages: each is a message whose lists stand in the world.
  What is known as the program holds it: its block, loaded and stored whole; whether two are the same; lists of messages that are alike but for where their Subs stand; what a step answers; what came in, opened. No conditions.
  What the rows' condition gives the walks: from which length to which prefixes are, and how many bytes of an address stand, by its encoding, as the two listed variables have it when the call begins; that they have the same as long as nothing that was there is changed. Generic: the variables' numbers are marks.
-/
import Derived.Test.YtjhfpobjbijcpaaDoorA01
import Derived.Test.YtjhfpobjbijcpaaDoorA08
import Derived.Test.YtjhfpobjbijcpaaDoorA11
import Derived.Deep.Slices
import Derived.Deep.Fields
import Derived.ChangeSame
import Derived.Carry
import Derived.Lib.SmallJoins
import Derived.Test.YtjhfpobjbijcpaaDoorRows
import Derived.Below
import Derived.OpenShut
import Derived.LaidLaws
import Derived.LaidMore
import Derived.Lib.LaidTab
import Derived.Stop.LaidErr
namespace Go.Proofs.YtjhfpobjbijcpaaDoor.Open
open Go.ChangeShapes Go.WideShapes Go.ChangeAt Go.RowKit Go.Deep
open Go.Proofs.YtjhfpobjbijcpaaDoor.Ms
open Go.Proofs.YtjhfpobjbijcpaaDoor.Box
open Go.Proofs.YtjhfpobjbijcpaaDoor.Few
open Go.Proofs.YtjhfpobjbijcpaaDoor.All
set_option linter.unusedVariables false
set_option maxRecDepth 100000

section
variable {H : Type} {enc : TypeId × Value → H} {W : World}

/-- A struct whose fields take one cell each reads field by field: field j's reading is that of cell j. -/
theorem each_field {t : TypeId} {fds : Array Field} (ht : Tryd.prog.underlying t = some (.struct fds)) (hone : oneCellFields Tryd.prog fds = true) {fuel : Nat} {cs : List Value} {x : DataW H × List MemPlace}
    (h : DataW.trod enc Tryd.prog W 0 (fun _ => true) true fuel t cs = some x) :
    cs.length = Tryd.prog.cellsOf t ∧ ∃ n, ∀ (j : Nat) (f : Field), fds[j]? = some f → ∃ y, DataW.trod enc Tryd.prog W 0 (fun _ => true) true n f.type ((cs.drop j).take 1) = some y := by
  obtain ⟨xs, n, _, _, hlen, hxl, hf⟩ := DataW.trod_struct ht h
  refine ⟨hlen, n, fun j f hj => ?_⟩
  have h1 := hf j f hj
  rw [(hone_of hone j f hj).1, (hone_of hone j f hj).2] at h1
  have hjl : j < xs.length := by rw [hxl]; exact (Array.getElem?_eq_some_iff.1 hj).1
  exact ⟨xs[j], h1.trans (List.getElem?_eq_getElem hjl)⟩

theorem els {α : Type} {n : Nat} {R : Nat → α → Prop} (h : ∀ i, i < n → ∃ x, R i x) : ∃ l : List α, l.length = n ∧ ∀ i (hi : i < l.length), R i l[i] := by
  induction n with
  | zero => exact ⟨[], rfl, fun i hi => absurd hi (by simp)⟩
  | succ n ih =>
    obtain ⟨l, hl, hr⟩ := ih fun i hi => h i (by omega)
    obtain ⟨x, hx⟩ := h n (by omega)
    refine ⟨l ++ [x], by simp [hl], fun i hi => ?_⟩
    by_cases hin : i < l.length
    · rw [List.getElem_append_left hin]; exact hr i hin
    · obtain rfl : i = l.length := by simp at hi; omega
      rw [List.getElem_append_right (Nat.le_refl _)]
      simp only [Nat.sub_self, List.getElem_cons_zero]
      rw [hl]; exact hx

theorem open_dests {fuel : Nat} {cs : List Value} {x : DataW H × List MemPlace} (h : DataW.trod enc Tryd.prog W 0 (fun _ => true) true fuel 31 cs = some x) :
    ∃ (a : Option Addr) (l : List El) (c : Nat), cs = [.slice a l.length c] ∧ DRow W a l ∧ l.length ≤ 9223372036854775807 := by
  have hz : Tryd.prog.cellsOf 39 = 2 := by kernel_rfl
  rcases open_slice Tryd.underlying31 h with h0 | ⟨a, len, cap, m, n, D, Pl, hcs, _, hl, hm, hmm, _, hi⟩
  · exact ⟨none, [], 0, h0.1, DRow.nil _ _, by simp⟩
  · obtain ⟨l, hll, hr⟩ := els (n := len) (R := fun i (x : El) => W.cell? (a.add (i * 2)) = some (.string x.1) ∧ W.cell? ((a.add (i * 2)).add 1) = some (.int .i64 x.2)) (fun i hin => by
      obtain ⟨ds, hc, ht⟩ := hi i (by rw [hmm]; split <;> omega)
      rw [hz] at hc
      obtain ⟨hlen, k, hf⟩ := each_field Tryd.underlying39 (by kernel_rfl) ht
      rw [hz] at hlen
      obtain ⟨_, _, hat⟩ := World.cells?_some hc
      have e0 := hat 0 (by decide)
      have e1 := hat 1 (by decide)
      match ds, hlen with
      | [d0, d1], _ =>
        obtain ⟨y0, g0⟩ := hf 0 _ rfl
        obtain ⟨y1, g1⟩ := hf 1 _ rfl
        obtain ⟨u0, q0, _, _⟩ := DataW.trod_string Tryd.underlying9 (show DataW.trod enc Tryd.prog W 0 (fun _ => true) true k 9 [d0] = some y0 from g0)
        obtain ⟨u1, q1, _, _⟩ := DataW.trod_int Tryd.underlying3 (show DataW.trod enc Tryd.prog W 0 (fun _ => true) true k 3 [d1] = some y1 from g1)
        obtain rfl := (List.cons.inj q0).1
        obtain rfl := (List.cons.inj q1).1
        exact ⟨(u0, u1), e0, e1⟩)
    refine ⟨some a, l, cap, by rw [hll]; exact hcs, fun i hin => ⟨a, rfl, ?_, hr i hin⟩, by unfold maxLen at hm; omega⟩
    have := block_lt_of_cell (hr i hin).1
    rwa [add_block] at this
theorem open_subs {fuel : Nat} {cs : List Value} {x : DataW H × List MemPlace} (h : DataW.trod enc Tryd.prog W 0 (fun _ => true) true fuel 32 cs = some x) :
    ∃ (a : Option Addr) (l : List El) (c : Nat), cs = [.slice a l.length c] ∧ SRow W a l ∧ l.length ≤ 9223372036854775807 := by
  have hz : Tryd.prog.cellsOf 41 = 2 := by kernel_rfl
  rcases open_slice Tryd.underlying32 h with h0 | ⟨a, len, cap, m, n, D, Pl, hcs, _, hl, hm, hmm, _, hi⟩
  · exact ⟨none, [], 0, h0.1, SRow.nil _ _, by simp⟩
  · obtain ⟨l, hll, hr⟩ := els (n := len) (R := fun i (x : El) => W.cell? (a.add (i * 2)) = some (.int .i64 x.2) ∧ W.cell? ((a.add (i * 2)).add 1) = some (.string x.1)) (fun i hin => by
      obtain ⟨ds, hc, ht⟩ := hi i (by rw [hmm]; split <;> omega)
      rw [hz] at hc
      obtain ⟨hlen, k, hf⟩ := each_field Tryd.underlying41 (by kernel_rfl) ht
      rw [hz] at hlen
      obtain ⟨_, _, hat⟩ := World.cells?_some hc
      have e0 := hat 0 (by decide)
      have e1 := hat 1 (by decide)
      match ds, hlen with
      | [d0, d1], _ =>
        obtain ⟨y0, g0⟩ := hf 0 _ rfl
        obtain ⟨y1, g1⟩ := hf 1 _ rfl
        obtain ⟨u0, q0, _, _⟩ := DataW.trod_int Tryd.underlying3 (show DataW.trod enc Tryd.prog W 0 (fun _ => true) true k 3 [d0] = some y0 from g0)
        obtain ⟨u1, q1, _, _⟩ := DataW.trod_string Tryd.underlying9 (show DataW.trod enc Tryd.prog W 0 (fun _ => true) true k 9 [d1] = some y1 from g1)
        obtain rfl := (List.cons.inj q0).1
        obtain rfl := (List.cons.inj q1).1
        exact ⟨(u1, u0), e0, e1⟩)
    refine ⟨some a, l, cap, by rw [hll]; exact hcs, fun i hin => ⟨a, rfl, ?_, hr i hin⟩, by unfold maxLen at hm; omega⟩
    have := block_lt_of_cell (hr i hin).1
    rwa [add_block] at this

theorem cellsM : Tryd.prog.cellsOf 34 = 25 := by kernel_rfl

set_option maxHeartbeats 1600000 in
theorem open_msg {fuel : Nat} {cs : List Value} {x : DataW H × List MemPlace} (h : DataW.trod enc Tryd.prog W 0 (fun _ => true) true fuel 34 cs = some x) :
    ∃ m : M, cs = m.cells.toList ∧ DRow W m.la m.ll ∧ SRow W m.sa m.sl := by
  obtain ⟨hlen, n, go⟩ := each_field Tryd.underlying34 (by kernel_rfl) h
  rw [cellsM] at hlen
  clear h
  match cs, hlen with
  | [c0, c1, c2, c3, c4, c5, c6, c7, c8, c9, c10, c11, c12, c13, c14, c15, c16, c17, c18, c19, c20, c21, c22, c23, c24], _ =>
    obtain ⟨y0, h0⟩ := go 0 _ rfl
    obtain ⟨k0, e0, _, _⟩ := DataW.trod_int Tryd.underlying3 (show DataW.trod enc Tryd.prog W 0 (fun _ => true) true n 3 [c0] = some y0 from h0)
    obtain rfl := (List.cons.inj e0).1
    clear e0
    obtain ⟨y1, h1⟩ := go 1 _ rfl
    obtain ⟨k1, e1, _, _⟩ := DataW.trod_int Tryd.underlying3 (show DataW.trod enc Tryd.prog W 0 (fun _ => true) true n 3 [c1] = some y1 from h1)
    obtain rfl := (List.cons.inj e1).1
    clear e1
    obtain ⟨y2, h2⟩ := go 2 _ rfl
    obtain ⟨k2, e2, _, _⟩ := DataW.trod_int Tryd.underlying3 (show DataW.trod enc Tryd.prog W 0 (fun _ => true) true n 3 [c2] = some y2 from h2)
    obtain rfl := (List.cons.inj e2).1
    clear e2
    obtain ⟨y3, h3⟩ := go 3 _ rfl
    obtain ⟨k3, e3, _, _⟩ := DataW.trod_string Tryd.underlying9 (show DataW.trod enc Tryd.prog W 0 (fun _ => true) true n 9 [c3] = some y3 from h3)
    obtain rfl := (List.cons.inj e3).1
    clear e3
    obtain ⟨y4, h4⟩ := go 4 _ rfl
    obtain ⟨k4, e4, _, _⟩ := DataW.trod_int Tryd.underlying3 (show DataW.trod enc Tryd.prog W 0 (fun _ => true) true n 3 [c4] = some y4 from h4)
    obtain rfl := (List.cons.inj e4).1
    clear e4
    obtain ⟨y5, h5⟩ := go 5 _ rfl
    obtain ⟨k5, e5, _, _⟩ := DataW.trod_int Tryd.underlying3 (show DataW.trod enc Tryd.prog W 0 (fun _ => true) true n 3 [c5] = some y5 from h5)
    obtain rfl := (List.cons.inj e5).1
    clear e5
    obtain ⟨y6, h6⟩ := go 6 _ rfl
    obtain ⟨k6, e6, _, _⟩ := DataW.trod_string Tryd.underlying9 (show DataW.trod enc Tryd.prog W 0 (fun _ => true) true n 9 [c6] = some y6 from h6)
    obtain rfl := (List.cons.inj e6).1
    clear e6
    obtain ⟨y7, h7⟩ := go 7 _ rfl
    obtain ⟨k7, e7, _, _⟩ := DataW.trod_int Tryd.underlying3 (show DataW.trod enc Tryd.prog W 0 (fun _ => true) true n 3 [c7] = some y7 from h7)
    obtain rfl := (List.cons.inj e7).1
    clear e7
    obtain ⟨y8, h8⟩ := go 8 _ rfl
    obtain ⟨k8, e8, _, _⟩ := DataW.trod_int Tryd.underlying3 (show DataW.trod enc Tryd.prog W 0 (fun _ => true) true n 3 [c8] = some y8 from h8)
    obtain rfl := (List.cons.inj e8).1
    clear e8
    obtain ⟨y9, h9⟩ := go 9 _ rfl
    obtain ⟨k9, e9, _, _⟩ := DataW.trod_string Tryd.underlying9 (show DataW.trod enc Tryd.prog W 0 (fun _ => true) true n 9 [c9] = some y9 from h9)
    obtain rfl := (List.cons.inj e9).1
    clear e9
    obtain ⟨y10, h10⟩ := go 10 _ rfl
    obtain ⟨k10, e10, _, _⟩ := DataW.trod_int Tryd.underlying3 (show DataW.trod enc Tryd.prog W 0 (fun _ => true) true n 3 [c10] = some y10 from h10)
    obtain rfl := (List.cons.inj e10).1
    clear e10
    obtain ⟨y11, h11⟩ := go 11 _ rfl
    obtain ⟨k11, e11, _, _⟩ := DataW.trod_string Tryd.underlying9 (show DataW.trod enc Tryd.prog W 0 (fun _ => true) true n 9 [c11] = some y11 from h11)
    obtain rfl := (List.cons.inj e11).1
    clear e11
    obtain ⟨y12, h12⟩ := go 12 _ rfl
    obtain ⟨k12, e12, _, _⟩ := DataW.trod_int Tryd.underlying3 (show DataW.trod enc Tryd.prog W 0 (fun _ => true) true n 3 [c12] = some y12 from h12)
    obtain rfl := (List.cons.inj e12).1
    clear e12
    obtain ⟨y13, h13⟩ := go 13 _ rfl
    obtain ⟨k13, e13, _, _⟩ := DataW.trod_int Tryd.underlying3 (show DataW.trod enc Tryd.prog W 0 (fun _ => true) true n 3 [c13] = some y13 from h13)
    obtain rfl := (List.cons.inj e13).1
    clear e13
    obtain ⟨y14, h14⟩ := go 14 _ rfl
    obtain ⟨k14, e14, _, _⟩ := DataW.trod_int Tryd.underlying3 (show DataW.trod enc Tryd.prog W 0 (fun _ => true) true n 3 [c14] = some y14 from h14)
    obtain rfl := (List.cons.inj e14).1
    clear e14
    obtain ⟨y15, h15⟩ := go 15 _ rfl
    obtain ⟨k15, e15, _, _⟩ := DataW.trod_int Tryd.underlying3 (show DataW.trod enc Tryd.prog W 0 (fun _ => true) true n 3 [c15] = some y15 from h15)
    obtain rfl := (List.cons.inj e15).1
    clear e15
    obtain ⟨y16, h16⟩ := go 16 _ rfl
    obtain ⟨k16, e16, _, _⟩ := DataW.trod_int Tryd.underlying3 (show DataW.trod enc Tryd.prog W 0 (fun _ => true) true n 3 [c16] = some y16 from h16)
    obtain rfl := (List.cons.inj e16).1
    clear e16
    obtain ⟨y17, h17⟩ := go 17 _ rfl
    obtain ⟨k17, e17, _, _⟩ := DataW.trod_int Tryd.underlying3 (show DataW.trod enc Tryd.prog W 0 (fun _ => true) true n 3 [c17] = some y17 from h17)
    obtain rfl := (List.cons.inj e17).1
    clear e17
    obtain ⟨y18, h18⟩ := go 18 _ rfl
    obtain ⟨k18, e18, _, _⟩ := DataW.trod_int Tryd.underlying3 (show DataW.trod enc Tryd.prog W 0 (fun _ => true) true n 3 [c18] = some y18 from h18)
    obtain rfl := (List.cons.inj e18).1
    clear e18
    obtain ⟨y19, h19⟩ := go 19 _ rfl
    obtain ⟨k19, e19, _, _⟩ := DataW.trod_string Tryd.underlying9 (show DataW.trod enc Tryd.prog W 0 (fun _ => true) true n 9 [c19] = some y19 from h19)
    obtain rfl := (List.cons.inj e19).1
    clear e19
    obtain ⟨y20, h20⟩ := go 20 _ rfl
    obtain ⟨k20, e20, _, _⟩ := DataW.trod_string Tryd.underlying9 (show DataW.trod enc Tryd.prog W 0 (fun _ => true) true n 9 [c20] = some y20 from h20)
    obtain rfl := (List.cons.inj e20).1
    clear e20
    obtain ⟨y21, h21⟩ := go 21 _ rfl
    obtain ⟨a21, l21, n21, e21, r21, _⟩ := open_dests (show DataW.trod enc Tryd.prog W 0 (fun _ => true) true n 31 [c21] = some y21 from h21)
    obtain rfl := (List.cons.inj e21).1
    clear e21
    obtain ⟨y22, h22⟩ := go 22 _ rfl
    obtain ⟨k22, e22, _, _⟩ := DataW.trod_int Tryd.underlying3 (show DataW.trod enc Tryd.prog W 0 (fun _ => true) true n 3 [c22] = some y22 from h22)
    obtain rfl := (List.cons.inj e22).1
    clear e22
    obtain ⟨y23, h23⟩ := go 23 _ rfl
    obtain ⟨k23, e23, _, _⟩ := DataW.trod_string Tryd.underlying9 (show DataW.trod enc Tryd.prog W 0 (fun _ => true) true n 9 [c23] = some y23 from h23)
    obtain rfl := (List.cons.inj e23).1
    clear e23
    obtain ⟨y24, h24⟩ := go 24 _ rfl
    obtain ⟨a24, l24, n24, e24, r24, _⟩ := open_subs (show DataW.trod enc Tryd.prog W 0 (fun _ => true) true n 32 [c24] = some y24 from h24)
    obtain rfl := (List.cons.inj e24).1
    clear e24
    exact ⟨⟨k0, k1, k2, k3, k4, k5, k6, k7, k8, k9, k10, k11, k12, k13, k14, k15, k16, k17, k18, k19, k20, a21, l21, n21, k22, k23, a24, l24, n24⟩, rfl, r21, r24⟩

theorem laidOut : laidOutB Tryd.prog = true := by kernel_rfl
theorem again {t : TypeId} (hr : Tryd.prog.readableRec t = true) (hrow : t < Tryd.prog.types.size) {W' : World} {v : Value} {d : DataW H} {ps : List MemPlace}
    (h : DataW.Trod enc Tryd.prog W 0 (fun _ => true) true t v d ps) (hb : Below W.heap.size W W') (hlt : ∀ x ∈ ps, x.block < W.heap.size) :
    DataW.Trod enc Tryd.prog W' 0 (fun b => decide (b < W.heap.size)) true t v d ps := Below.trod laidOut hr hrow h hb hlt
end
end Go.Proofs.YtjhfpobjbijcpaaDoor.Open
namespace Go.Proofs.YtjhfpobjbijcpaaDoor.Kb
open Go.ChangeShapes Go.WideShapes Go.ChangeAt Go.RowKit Go.Joins
open Go.Proofs.YtjhfpobjbijcpaaDoor.Ms
open Go.Proofs.YtjhfpobjbijcpaaDoor.Box
open Go.Proofs.YtjhfpobjbijcpaaDoor.All
open Go.Proofs.YtjhfpobjbijcpaaDoor.An
open Go.Proofs.YtjhfpobjbijcpaaDoor.K1
open Go.Proofs.YtjhfpobjbijcpaaDoor.F1 (T)
open Go.Proofs.YtjhfpobjbijcpaaDoor.Ap (add_at)
open Go.Proofs.YtjhfpobjbijcpaaDoor.Open (each_field els open_msg)
open Go.Proofs.YtjhfpobjbijcpaaDoor.Bk (Bk Sh alloc_size wpList_loadK wpList_storeK run_loadK)
open Go.Deep
set_option linter.unusedVariables false
set_option maxRecDepth 100000
set_option maxRecDepth 100000
theorem shX : Sh Tryd.prog 48 7 := ⟨_, Tryd.underlying48, by kernel_rfl⟩
theorem oneX (x : Kx) : (x.cells.all fun x => x.oneCell') = true := by simp [Kx.cells, Value.oneCell']
theorem wpList_loadX {ops : Array Oper} {rest : List Oper} {o : Oper} {a : Act} {w : World} {Q : Exit → Act → World → Prop} (hgd : o.guard = none) (x : Operand) (ho : o.op = .load 48 x) {b : Nat} (hx : a.eval x = .pointer (some ⟨b, 0, none⟩)) {m : Kx} (hb : Bk 48 w b m.cells)
    (h : wpList Tryd.prog ops Q rest (a.put o.dst (.agg m.cells)) w) : wpList Tryd.prog ops Q (o :: rest) a w := wpList_loadK shX hgd x ho hx hb rfl h
theorem wpList_storeX {ops : Array Oper} {rest : List Oper} {o : Oper} {a : Act} {w : World} {Q : Exit → Act → World → Prop} (hgd : o.guard = none) (x y : Operand) (ho : o.op = .store 48 x y) {b : Nat} (hx : a.eval x = .pointer (some ⟨b, 0, none⟩)) {m m' : Kx} (hy : a.eval y = .agg m'.cells) (hb : Bk 48 w b m.cells)
    (h : wpList Tryd.prog ops Q rest (a.put o.dst undef) (w.setRow b m'.cells)) : wpList Tryd.prog ops Q (o :: rest) a w := wpList_storeK shX hgd x y ho hx hy hb rfl rfl (oneX m') h

section
variable {H : Type} {enc : TypeId × Value → H} {W : World}
theorem open_msgP {fuel : Nat} {cs : List Value} {x : DataW H × List MemPlace} (h : DataW.trod enc Tryd.prog W 0 (fun _ => true) true fuel 34 cs = some x) :
    ∃ m : M, cs = m.cells.toList ∧ DRow W m.la m.ll ∧ SRow W m.sa m.sl ∧ m.pfx.size ≤ maxLen := by
  obtain ⟨m, rfl, hd, hs⟩ := open_msg h
  refine ⟨m, rfl, hd, hs, ?_⟩
  obtain ⟨_, n, go⟩ := each_field Tryd.underlying34 (by kernel_rfl) h
  obtain ⟨y6, h6⟩ := go 6 _ rfl
  obtain ⟨k6, e6, _, z6⟩ := DataW.trod_string Tryd.underlying9 (show DataW.trod enc Tryd.prog W 0 (fun _ => true) true n 9 [.string m.pfx] = some y6 from h6)
  have e : m.pfx = k6 := by
    have := (List.cons.inj e6).1
    injection this
  rw [e]
  exact z6
end
end Go.Proofs.YtjhfpobjbijcpaaDoor.Kb
namespace Go.Proofs.YtjhfpobjbijcpaaDoor.Tc
open Go.RowKit Go.ChangeShapes Go.WideShapes Go.Joins
set_option maxRecDepth 100000

/-- What the variable has. -/
structure Tab (w : World) : Prop where
  a0 : w.cell? ⟨0, 0, none⟩ = some (.int .i64 0)
  a1 : w.cell? ⟨0, 1, none⟩ = some (.int .i64 4)
  a2 : w.cell? ⟨0, 2, none⟩ = some (.int .i64 16)
  a3 : w.cell? ⟨0, 3, none⟩ = some (.int .i64 8)
  s0 : w.cell? ⟨1, 0, none⟩ = some (.int .i64 0)
  s1 : w.cell? ⟨1, 1, none⟩ = some (.int .i64 0)
  s2 : w.cell? ⟨1, 2, none⟩ = some (.int .i64 0)
  s3 : w.cell? ⟨1, 3, none⟩ = some (.int .i64 32)
  s4 : w.cell? ⟨1, 4, none⟩ = some (.int .i64 0)
  s5 : w.cell? ⟨1, 5, none⟩ = some (.int .i64 128)
  s6 : w.cell? ⟨1, 6, none⟩ = some (.int .i64 64)
  s7 : w.cell? ⟨1, 7, none⟩ = some (.int .i64 128)
theorem ga : Tryd.prog.globalNamed "roadbook/field.addrSizes" = some 0 := by kernel_rfl
theorem ta : (Tryd.prog.globals[0]?).map (·.type) = some 106 := by kernel_rfl
theorem g0 : Tryd.prog.globalNamed "roadbook/route.spans" = some 1 := by kernel_rfl
theorem t0 : (Tryd.prog.globals[1]?).map (·.type) = some 110 := by kernel_rfl
theorem eight {α : Type} (l : List α) (h : l.length = 8) : ∃ a b c d e f g i, l = [a, b, c, d, e, f, g, i] := by
  match l, h with
  | [a, b, c, d, e, f, g, i], _ => exact ⟨a, b, c, d, e, f, g, i, rfl⟩
theorem of_laid {w : World} (h : laidMetH Tryd.prog [("roadbook/field.addrSizes", Rows.laid_roadbook_field_addrSizes), ("roadbook/route.spans", Rows.laid_roadbook_route_spans)] w) : Tab w := by
  have h : laidMet Tryd.prog [("roadbook/field.addrSizes", Rows.laid_roadbook_field_addrSizes), ("roadbook/route.spans", Rows.laid_roadbook_route_spans)] w := by
    rw [MakeChecks.laidMetH_plain _ _ _ (by kernel_rfl)] at h; exact h
  have ha : Lib.TabIs Tryd.prog w "roadbook/field.addrSizes" .i64 [0, 4, 16, 8] := Lib.tabIs_of_head ga ta Tryd.underlying106 Tryd.underlying3 (by kernel_rfl) (by kernel_rfl) (rest := _) (by exact h)
  have h := h.tail
  obtain ⟨ps, ⟨g', t', cs, f, p, q, hg', ht', hv, hd, _, _⟩, _⟩ := h
  obtain rfl := Option.some.inj (g0.symm.trans hg')
  obtain rfl := Option.some.inj (t0.symm.trans ht')
  have cS : Tryd.prog.cellsOf 109 = 2 := by kernel_rfl
  have cA : Tryd.prog.cellsOf 110 = 8 := by kernel_rfl
  have c3 : Tryd.prog.cellsOf 3 = 1 := by kernel_rfl
  obtain ⟨xs, m, _, ex, hl, hn, hel⟩ := DataW.trod_array Tryd.underlying110 hd
  rw [cA] at hl
  obtain ⟨a0, a1, a2, a3, a4, a5, a6, a7, hcs⟩ := eight _ hl
  have e0 := hel 0 (by decide)
  have e1 := hel 1 (by decide)
  have e2 := hel 2 (by decide)
  have e3 := hel 3 (by decide)
  rw [cS, hcs] at e0 e1 e2 e3
  match xs, hn, ex, e0, e1, e2, e3 with
  | [x0, x1, x2, x3], _, ex, e0, e1, e2, e3 =>
    simp only [List.drop_zero, List.take_succ_cons, List.take_zero, Nat.zero_mul, Nat.one_mul, Nat.reduceMul, List.drop_succ_cons, List.getElem?_cons_zero, List.getElem?_cons_succ] at e0 e1 e2 e3
    obtain ⟨y0, y1, n0, hx0, _, f0, f1⟩ := trod_struct2 Tryd.underlying109 e0
    obtain ⟨y2, y3, n1, hx1, _, f2, f3⟩ := trod_struct2 Tryd.underlying109 e1
    obtain ⟨y4, y5, n2, hx2, _, f4, f5⟩ := trod_struct2 Tryd.underlying109 e2
    obtain ⟨y6, y7, n3, hx3, _, f6, f7⟩ := trod_struct2 Tryd.underlying109 e3
    simp only [c3, List.drop_zero, List.take_succ_cons, List.take_zero, List.drop_succ_cons] at f0 f1 f2 f3 f4 f5 f6 f7
    obtain ⟨b0, q0, k0, _⟩ := DataW.trod_int Tryd.underlying3 f0
    obtain ⟨b1, q1, k1, _⟩ := DataW.trod_int Tryd.underlying3 f1
    obtain ⟨b2, q2, k2, _⟩ := DataW.trod_int Tryd.underlying3 f2
    obtain ⟨b3, q3, k3, _⟩ := DataW.trod_int Tryd.underlying3 f3
    obtain ⟨b4, q4, k4, _⟩ := DataW.trod_int Tryd.underlying3 f4
    obtain ⟨b5, q5, k5, _⟩ := DataW.trod_int Tryd.underlying3 f5
    obtain ⟨b6, q6, k6, _⟩ := DataW.trod_int Tryd.underlying3 f6
    obtain ⟨b7, q7, k7, _⟩ := DataW.trod_int Tryd.underlying3 f7
    subst k0 k1 k2 k3 k4 k5 k6 k7
    subst hx0 hx1 hx2 hx3
    simp [Rows.laid_roadbook_route_spans] at ex
    obtain ⟨⟨⟨r0, r1⟩, ⟨r2, r3⟩, ⟨r4, r5⟩, r6, r7⟩, _⟩ := ex
    simp only [List.cons.injEq, and_true] at q0 q1 q2 q3 q4 q5 q6 q7
    have hc : ∀ i, w.cell? ⟨1, i, none⟩ = cs.toList[i]? := fun i => by have := World.var?_cell g0 hv i; simpa using this
    rw [hcs] at hc
    subst q0 q1 q2 q3 q4 q5 q6 q7
    subst r0 r1 r2 r3 r4 r5 r6 r7
    exact ⟨ha.cell ga 0 (by decide), ha.cell ga 1 (by decide), ha.cell ga 2 (by decide), ha.cell ga 3 (by decide), hc 0, hc 1, hc 2, hc 3, hc 4, hc 5, hc 6, hc 7⟩
theorem Tab.pos {w : World} (h : Tab w) : 1 < w.heap.size := by
  have h0 := World.block_lt_of_cell? _ _ h.a0
  have h0 : 0 < w.heap.size := h0
  have h1 := World.block_lt_of_cell? _ _ h.s0
  have h1 : 1 < w.heap.size := h1
  omega
/-- .. and behind whatever leaves the first two blocks as they were. -/
theorem Tab.under {B : Nat} {w w' : World} (h : Tab w) (hb : Below B w w') (hB : 1 < B) : Tab w' := by
  have c : ∀ b i, b ≤ 1 → w'.cell? ⟨b, i, none⟩ = w.cell? ⟨b, i, none⟩ := fun b i hi => hb.cell (p := ⟨b, i, none⟩) (by show b < B; omega)
  exact ⟨(c _ _ (by decide)).trans h.a0, (c _ _ (by decide)).trans h.a1, (c _ _ (by decide)).trans h.a2, (c _ _ (by decide)).trans h.a3, (c _ _ (by decide)).trans h.s0, (c _ _ (by decide)).trans h.s1, (c _ _ (by decide)).trans h.s2, (c _ _ (by decide)).trans h.s3, (c _ _ (by decide)).trans h.s4, (c _ _ (by decide)).trans h.s5, (c _ _ (by decide)).trans h.s6, (c _ _ (by decide)).trans h.s7⟩
theorem Tab.below {w w' : World} (h : Tab w) (hb : Below w.heap.size w w') : Tab w' := h.under hb h.pos
end Go.Proofs.YtjhfpobjbijcpaaDoor.Tc
