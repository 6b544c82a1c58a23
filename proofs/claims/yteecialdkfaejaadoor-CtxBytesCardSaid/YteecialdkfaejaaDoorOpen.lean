/-
  What came in, opened: a message by value, a list of messages: each is a message whose lists stand in the world.
-/
import Derived.Test.YteecialdkfaejaaDoorAll
import Derived.Deep.Slices
import Derived.Deep.Fields
import Derived.ChangeSame
import Derived.Carry
namespace Go.Proofs.YteecialdkfaejaaDoor.Open
open Go.ChangeShapes Go.WideShapes Go.ChangeAt Go.RowKit Go.Deep
open Go.Proofs.YteecialdkfaejaaDoor.Ms
open Go.Proofs.YteecialdkfaejaaDoor.Box
open Go.Proofs.YteecialdkfaejaaDoor.Few
open Go.Proofs.YteecialdkfaejaaDoor.All
set_option linter.unusedVariables false
set_option maxRecDepth 100000

section
variable {H : Type} {enc : TypeId × Value → H} {W : World}

/-- A struct whose fields take one cell each reads field by field: field j's reading is that of cell j. -/
theorem each_field {t : TypeId} {fds : Array Field} (ht : Tryd.prog.underlying t = some (.struct fds)) (hone : oneCellFields Tryd.prog fds = true) {fuel : Nat} {cs : List Value} {x : DataW H × List MemPlace}
    (h : DataW.trod enc Tryd.prog W 0 (fun _ => true) true fuel t cs = some x) :
    cs.length = Tryd.prog.cellsOf t ∧ ∃ n, ∀ (j : Nat) (f : Field), fds[j]? = some f → ∃ y, DataW.trod enc Tryd.prog W 0 (fun _ => true) true n f.type ((cs.drop j).take 1) = some y := by
  obtain ⟨xs, n, _, _, hlen, hxl, hf⟩ := DataW.trod_struct ht h
  refine ⟨hlen, n, fun j f hj => ?_⟩
  have h1 := hf j f hj
  rw [(hone_of hone j f hj).1, (hone_of hone j f hj).2] at h1
  have hjl : j < xs.length := by rw [hxl]; exact (Array.getElem?_eq_some_iff.1 hj).1
  exact ⟨xs[j], h1.trans (List.getElem?_eq_getElem hjl)⟩

theorem els {α : Type} {n : Nat} {R : Nat → α → Prop} (h : ∀ i, i < n → ∃ x, R i x) : ∃ l : List α, l.length = n ∧ ∀ i (hi : i < l.length), R i l[i] := by
  induction n with
  | zero => exact ⟨[], rfl, fun i hi => absurd hi (by simp)⟩
  | succ n ih =>
    obtain ⟨l, hl, hr⟩ := ih fun i hi => h i (by omega)
    obtain ⟨x, hx⟩ := h n (by omega)
    refine ⟨l ++ [x], by simp [hl], fun i hi => ?_⟩
    by_cases hin : i < l.length
    · rw [List.getElem_append_left hin]; exact hr i hin
    · obtain rfl : i = l.length := by simp at hi; omega
      rw [List.getElem_append_right (Nat.le_refl _)]
      simp only [Nat.sub_self, List.getElem_cons_zero]
      rw [hl]; exact hx

theorem open_dests {fuel : Nat} {cs : List Value} {x : DataW H × List MemPlace} (h : DataW.trod enc Tryd.prog W 0 (fun _ => true) true fuel 37 cs = some x) :
    ∃ (a : Option Addr) (l : List El) (c : Nat), cs = [.slice a l.length c] ∧ DRow W a l ∧ l.length ≤ 9223372036854775807 := by
  have hz : Tryd.prog.cellsOf 93 = 2 := by kernel_rfl
  rcases open_slice Tryd.underlying37 h with h0 | ⟨a, len, cap, m, n, D, Pl, hcs, _, hl, hm, hmm, _, hi⟩
  · exact ⟨none, [], 0, h0.1, DRow.nil _ _, by simp⟩
  · obtain ⟨l, hll, hr⟩ := els (n := len) (R := fun i (x : El) => W.cell? (a.add (i * 2)) = some (.string x.1) ∧ W.cell? ((a.add (i * 2)).add 1) = some (.int .i64 x.2)) (fun i hin => by
      obtain ⟨ds, hc, ht⟩ := hi i (by rw [hmm]; split <;> omega)
      rw [hz] at hc
      obtain ⟨hlen, k, hf⟩ := each_field Tryd.underlying93 (by kernel_rfl) ht
      rw [hz] at hlen
      obtain ⟨_, _, hat⟩ := World.cells?_some hc
      have e0 := hat 0 (by decide)
      have e1 := hat 1 (by decide)
      match ds, hlen with
      | [d0, d1], _ =>
        obtain ⟨y0, g0⟩ := hf 0 _ rfl
        obtain ⟨y1, g1⟩ := hf 1 _ rfl
        obtain ⟨u0, q0, _, _⟩ := DataW.trod_string Tryd.underlying9 (show DataW.trod enc Tryd.prog W 0 (fun _ => true) true k 9 [d0] = some y0 from g0)
        obtain ⟨u1, q1, _, _⟩ := DataW.trod_int Tryd.underlying3 (show DataW.trod enc Tryd.prog W 0 (fun _ => true) true k 3 [d1] = some y1 from g1)
        obtain rfl := (List.cons.inj q0).1
        obtain rfl := (List.cons.inj q1).1
        exact ⟨(u0, u1), e0, e1⟩)
    refine ⟨some a, l, cap, by rw [hll]; exact hcs, fun i hin => ⟨a, rfl, ?_, hr i hin⟩, by unfold maxLen at hm; omega⟩
    have := block_lt_of_cell (hr i hin).1
    rwa [add_block] at this
theorem open_subs {fuel : Nat} {cs : List Value} {x : DataW H × List MemPlace} (h : DataW.trod enc Tryd.prog W 0 (fun _ => true) true fuel 38 cs = some x) :
    ∃ (a : Option Addr) (l : List El) (c : Nat), cs = [.slice a l.length c] ∧ SRow W a l ∧ l.length ≤ 9223372036854775807 := by
  have hz : Tryd.prog.cellsOf 89 = 2 := by kernel_rfl
  rcases open_slice Tryd.underlying38 h with h0 | ⟨a, len, cap, m, n, D, Pl, hcs, _, hl, hm, hmm, _, hi⟩
  · exact ⟨none, [], 0, h0.1, SRow.nil _ _, by simp⟩
  · obtain ⟨l, hll, hr⟩ := els (n := len) (R := fun i (x : El) => W.cell? (a.add (i * 2)) = some (.int .i64 x.2) ∧ W.cell? ((a.add (i * 2)).add 1) = some (.string x.1)) (fun i hin => by
      obtain ⟨ds, hc, ht⟩ := hi i (by rw [hmm]; split <;> omega)
      rw [hz] at hc
      obtain ⟨hlen, k, hf⟩ := each_field Tryd.underlying89 (by kernel_rfl) ht
      rw [hz] at hlen
      obtain ⟨_, _, hat⟩ := World.cells?_some hc
      have e0 := hat 0 (by decide)
      have e1 := hat 1 (by decide)
      match ds, hlen with
      | [d0, d1], _ =>
        obtain ⟨y0, g0⟩ := hf 0 _ rfl
        obtain ⟨y1, g1⟩ := hf 1 _ rfl
        obtain ⟨u0, q0, _, _⟩ := DataW.trod_int Tryd.underlying3 (show DataW.trod enc Tryd.prog W 0 (fun _ => true) true k 3 [d0] = some y0 from g0)
        obtain ⟨u1, q1, _, _⟩ := DataW.trod_string Tryd.underlying9 (show DataW.trod enc Tryd.prog W 0 (fun _ => true) true k 9 [d1] = some y1 from g1)
        obtain rfl := (List.cons.inj q0).1
        obtain rfl := (List.cons.inj q1).1
        exact ⟨(u1, u0), e0, e1⟩)
    refine ⟨some a, l, cap, by rw [hll]; exact hcs, fun i hin => ⟨a, rfl, ?_, hr i hin⟩, by unfold maxLen at hm; omega⟩
    have := block_lt_of_cell (hr i hin).1
    rwa [add_block] at this

theorem cellsM : Tryd.prog.cellsOf 40 = 25 := by kernel_rfl

set_option maxHeartbeats 1600000 in
theorem open_msg {fuel : Nat} {cs : List Value} {x : DataW H × List MemPlace} (h : DataW.trod enc Tryd.prog W 0 (fun _ => true) true fuel 40 cs = some x) :
    ∃ m : M, cs = m.cells.toList ∧ DRow W m.la m.ll ∧ SRow W m.sa m.sl := by
  obtain ⟨hlen, n, go⟩ := each_field Tryd.underlying40 (by kernel_rfl) h
  rw [cellsM] at hlen
  clear h
  match cs, hlen with
  | [c0, c1, c2, c3, c4, c5, c6, c7, c8, c9, c10, c11, c12, c13, c14, c15, c16, c17, c18, c19, c20, c21, c22, c23, c24], _ =>
    obtain ⟨y0, h0⟩ := go 0 _ rfl
    obtain ⟨k0, e0, _, _⟩ := DataW.trod_int Tryd.underlying3 (show DataW.trod enc Tryd.prog W 0 (fun _ => true) true n 3 [c0] = some y0 from h0)
    obtain rfl := (List.cons.inj e0).1
    clear e0
    obtain ⟨y1, h1⟩ := go 1 _ rfl
    obtain ⟨k1, e1, _, _⟩ := DataW.trod_int Tryd.underlying3 (show DataW.trod enc Tryd.prog W 0 (fun _ => true) true n 3 [c1] = some y1 from h1)
    obtain rfl := (List.cons.inj e1).1
    clear e1
    obtain ⟨y2, h2⟩ := go 2 _ rfl
    obtain ⟨k2, e2, _, _⟩ := DataW.trod_int Tryd.underlying3 (show DataW.trod enc Tryd.prog W 0 (fun _ => true) true n 3 [c2] = some y2 from h2)
    obtain rfl := (List.cons.inj e2).1
    clear e2
    obtain ⟨y3, h3⟩ := go 3 _ rfl
    obtain ⟨k3, e3, _, _⟩ := DataW.trod_string Tryd.underlying9 (show DataW.trod enc Tryd.prog W 0 (fun _ => true) true n 9 [c3] = some y3 from h3)
    obtain rfl := (List.cons.inj e3).1
    clear e3
    obtain ⟨y4, h4⟩ := go 4 _ rfl
    obtain ⟨k4, e4, _, _⟩ := DataW.trod_int Tryd.underlying3 (show DataW.trod enc Tryd.prog W 0 (fun _ => true) true n 3 [c4] = some y4 from h4)
    obtain rfl := (List.cons.inj e4).1
    clear e4
    obtain ⟨y5, h5⟩ := go 5 _ rfl
    obtain ⟨k5, e5, _, _⟩ := DataW.trod_int Tryd.underlying3 (show DataW.trod enc Tryd.prog W 0 (fun _ => true) true n 3 [c5] = some y5 from h5)
    obtain rfl := (List.cons.inj e5).1
    clear e5
    obtain ⟨y6, h6⟩ := go 6 _ rfl
    obtain ⟨k6, e6, _, _⟩ := DataW.trod_string Tryd.underlying9 (show DataW.trod enc Tryd.prog W 0 (fun _ => true) true n 9 [c6] = some y6 from h6)
    obtain rfl := (List.cons.inj e6).1
    clear e6
    obtain ⟨y7, h7⟩ := go 7 _ rfl
    obtain ⟨k7, e7, _, _⟩ := DataW.trod_int Tryd.underlying3 (show DataW.trod enc Tryd.prog W 0 (fun _ => true) true n 3 [c7] = some y7 from h7)
    obtain rfl := (List.cons.inj e7).1
    clear e7
    obtain ⟨y8, h8⟩ := go 8 _ rfl
    obtain ⟨k8, e8, _, _⟩ := DataW.trod_int Tryd.underlying3 (show DataW.trod enc Tryd.prog W 0 (fun _ => true) true n 3 [c8] = some y8 from h8)
    obtain rfl := (List.cons.inj e8).1
    clear e8
    obtain ⟨y9, h9⟩ := go 9 _ rfl
    obtain ⟨k9, e9, _, _⟩ := DataW.trod_string Tryd.underlying9 (show DataW.trod enc Tryd.prog W 0 (fun _ => true) true n 9 [c9] = some y9 from h9)
    obtain rfl := (List.cons.inj e9).1
    clear e9
    obtain ⟨y10, h10⟩ := go 10 _ rfl
    obtain ⟨k10, e10, _, _⟩ := DataW.trod_int Tryd.underlying3 (show DataW.trod enc Tryd.prog W 0 (fun _ => true) true n 3 [c10] = some y10 from h10)
    obtain rfl := (List.cons.inj e10).1
    clear e10
    obtain ⟨y11, h11⟩ := go 11 _ rfl
    obtain ⟨k11, e11, _, _⟩ := DataW.trod_string Tryd.underlying9 (show DataW.trod enc Tryd.prog W 0 (fun _ => true) true n 9 [c11] = some y11 from h11)
    obtain rfl := (List.cons.inj e11).1
    clear e11
    obtain ⟨y12, h12⟩ := go 12 _ rfl
    obtain ⟨k12, e12, _, _⟩ := DataW.trod_int Tryd.underlying3 (show DataW.trod enc Tryd.prog W 0 (fun _ => true) true n 3 [c12] = some y12 from h12)
    obtain rfl := (List.cons.inj e12).1
    clear e12
    obtain ⟨y13, h13⟩ := go 13 _ rfl
    obtain ⟨k13, e13, _, _⟩ := DataW.trod_int Tryd.underlying3 (show DataW.trod enc Tryd.prog W 0 (fun _ => true) true n 3 [c13] = some y13 from h13)
    obtain rfl := (List.cons.inj e13).1
    clear e13
    obtain ⟨y14, h14⟩ := go 14 _ rfl
    obtain ⟨k14, e14, _, _⟩ := DataW.trod_int Tryd.underlying3 (show DataW.trod enc Tryd.prog W 0 (fun _ => true) true n 3 [c14] = some y14 from h14)
    obtain rfl := (List.cons.inj e14).1
    clear e14
    obtain ⟨y15, h15⟩ := go 15 _ rfl
    obtain ⟨k15, e15, _, _⟩ := DataW.trod_int Tryd.underlying3 (show DataW.trod enc Tryd.prog W 0 (fun _ => true) true n 3 [c15] = some y15 from h15)
    obtain rfl := (List.cons.inj e15).1
    clear e15
    obtain ⟨y16, h16⟩ := go 16 _ rfl
    obtain ⟨k16, e16, _, _⟩ := DataW.trod_int Tryd.underlying3 (show DataW.trod enc Tryd.prog W 0 (fun _ => true) true n 3 [c16] = some y16 from h16)
    obtain rfl := (List.cons.inj e16).1
    clear e16
    obtain ⟨y17, h17⟩ := go 17 _ rfl
    obtain ⟨k17, e17, _, _⟩ := DataW.trod_int Tryd.underlying3 (show DataW.trod enc Tryd.prog W 0 (fun _ => true) true n 3 [c17] = some y17 from h17)
    obtain rfl := (List.cons.inj e17).1
    clear e17
    obtain ⟨y18, h18⟩ := go 18 _ rfl
    obtain ⟨k18, e18, _, _⟩ := DataW.trod_int Tryd.underlying3 (show DataW.trod enc Tryd.prog W 0 (fun _ => true) true n 3 [c18] = some y18 from h18)
    obtain rfl := (List.cons.inj e18).1
    clear e18
    obtain ⟨y19, h19⟩ := go 19 _ rfl
    obtain ⟨k19, e19, _, _⟩ := DataW.trod_string Tryd.underlying9 (show DataW.trod enc Tryd.prog W 0 (fun _ => true) true n 9 [c19] = some y19 from h19)
    obtain rfl := (List.cons.inj e19).1
    clear e19
    obtain ⟨y20, h20⟩ := go 20 _ rfl
    obtain ⟨k20, e20, _, _⟩ := DataW.trod_string Tryd.underlying9 (show DataW.trod enc Tryd.prog W 0 (fun _ => true) true n 9 [c20] = some y20 from h20)
    obtain rfl := (List.cons.inj e20).1
    clear e20
    obtain ⟨y21, h21⟩ := go 21 _ rfl
    obtain ⟨a21, l21, n21, e21, r21, _⟩ := open_dests (show DataW.trod enc Tryd.prog W 0 (fun _ => true) true n 37 [c21] = some y21 from h21)
    obtain rfl := (List.cons.inj e21).1
    clear e21
    obtain ⟨y22, h22⟩ := go 22 _ rfl
    obtain ⟨k22, e22, _, _⟩ := DataW.trod_int Tryd.underlying3 (show DataW.trod enc Tryd.prog W 0 (fun _ => true) true n 3 [c22] = some y22 from h22)
    obtain rfl := (List.cons.inj e22).1
    clear e22
    obtain ⟨y23, h23⟩ := go 23 _ rfl
    obtain ⟨k23, e23, _, _⟩ := DataW.trod_string Tryd.underlying9 (show DataW.trod enc Tryd.prog W 0 (fun _ => true) true n 9 [c23] = some y23 from h23)
    obtain rfl := (List.cons.inj e23).1
    clear e23
    obtain ⟨y24, h24⟩ := go 24 _ rfl
    obtain ⟨a24, l24, n24, e24, r24, _⟩ := open_subs (show DataW.trod enc Tryd.prog W 0 (fun _ => true) true n 38 [c24] = some y24 from h24)
    obtain rfl := (List.cons.inj e24).1
    clear e24
    exact ⟨⟨k0, k1, k2, k3, k4, k5, k6, k7, k8, k9, k10, k11, k12, k13, k14, k15, k16, k17, k18, k19, k20, a21, l21, n21, k22, k23, a24, l24, n24⟩, rfl, r21, r24⟩

theorem by_value {base : Nat} {v : Value} {d : DataW H} {p : List MemPlace} (hv : Value.okWide Tryd.prog W .any base 40 v) (h : DataW.Trod enc Tryd.prog W 0 (fun _ => true) true 40 v d p) :
    ∃ m : M, v = .agg m.cells ∧ DRow W m.la m.ll ∧ SRow W m.sa m.sl := by
  obtain ⟨cs, rfl, hsz⟩ := okWide_struct Tryd.underlying40 hv
  obtain ⟨fuel, hf⟩ := h
  obtain ⟨m, hm, hd, hs⟩ := open_msg hf
  have : cs = m.cells := Array.ext' hm
  subst this
  exact ⟨m, rfl, hd, hs⟩
theorem laidOut : laidOutB Tryd.prog = true := by kernel_rfl
theorem again {t : TypeId} (hr : Tryd.prog.readableRec t = true) (hrow : t < Tryd.prog.types.size) {W' : World} {v : Value} {d : DataW H} {ps : List MemPlace}
    (h : DataW.Trod enc Tryd.prog W 0 (fun _ => true) true t v d ps) (hb : Below W.heap.size W W') (hlt : ∀ x ∈ ps, x.block < W.heap.size) :
    DataW.Trod enc Tryd.prog W' 0 (fun b => decide (b < W.heap.size)) true t v d ps := Below.trod laidOut hr hrow h hb hlt
theorem by_list {base : Nat} {v : Value} {d : DataW H} {p : List MemPlace} (hv : Value.okWide Tryd.prog W .any base 30 v) (h : DataW.Trod enc Tryd.prog W 0 (fun _ => true) true 30 v d p) :
    ∃ (a : Option Addr) (l : List M) (c : Nat), v = .slice a l.length c ∧ MRow W a l ∧ l.length ≤ 9223372036854775807 := by
  obtain ⟨fuel, hf⟩ := h
  have hvc := okWide_slice Tryd.underlying30 hv
  obtain ⟨va, vn, vc, rfl⟩ := hvc
  rcases open_slice Tryd.underlying30 hf with h0 | ⟨a, len, cap, m, n, D, Pl, hcs, hb, hl, hm, hmm, hx, hi⟩
  · have e := h0.1
    simp [Value.cells] at e
    obtain ⟨rfl, rfl, rfl⟩ := e
    exact ⟨none, [], 0, rfl, MRow.nil _ _, by simp⟩
  · simp [Value.cells] at hcs
    obtain ⟨rfl, rfl, rfl⟩ := hcs
    obtain ⟨l, hll, hr⟩ := els (n := vn) (R := fun i (u : M) => (∀ j v, (u.cells.toList)[j]? = some v → W.cell? ((a.add (i * 25)).add j) = some v) ∧ DRow W u.la u.ll ∧ SRow W u.sa u.sl) (fun i hin => by
      obtain ⟨cs', hc, ht'⟩ := hi i (by rw [hmm]; split <;> omega)
      rw [cellsM] at hc
      obtain ⟨u, rfl, hd, hs⟩ := open_msg ht'
      obtain ⟨_, hcl, hat⟩ := World.cells?_some hc
      refine ⟨u, fun j v hv => ?_, hd, hs⟩
      have hj : j < 25 := by
        have := (List.getElem?_eq_some_iff.1 hv).1
        simpa [M.cells] using this
      rw [hat j hj]; exact hv)
    refine ⟨some a, l, vc, by rw [hll], fun i hin => ⟨a, rfl, ?_, (hr i hin).1, (hr i hin).2⟩, by unfold maxLen at hm; omega⟩
    have := block_lt_of_cell ((hr i hin).1 0 _ rfl)
    rwa [add_block, add_block] at this
end
end Go.Proofs.YteecialdkfaejaaDoor.Open
