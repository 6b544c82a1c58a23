/-
  Whether two lists of messages are the same: the program's answer (slices.EqualFunc) and the document's; whether a list has few messages. Condition: lists within of at most 2^20 elements.
  A list of messages of a call's own, one appended behind the other: its cells, and that its messages stand in the world. No conditions.
  One operation of a region that draws its order, by hand: one alone, or two that may come next. No conditions.
  What came in, opened: a message by value, a list of messages: each is a message whose lists stand in the world.
  What is known as the program holds it: its block, loaded and stored whole; whether two are the same; lists of messages that are alike but for where their Subs stand; what a step answers; what came in, opened. No conditions.
-/
import Derived.Test.YtjhfpobjbijcpaaGreatDoorE02
import Derived.Test.YtjhfpobjbijcpaaGreatDoorE03
import Derived.Test.YtjhfpobjbijcpaaGreatDoorE06
import Derived.Test.YtjhfpobjbijcpaaGreatDoorE11
import Derived.Test.YtjhfpobjbijcpaaGreatDoorE12
import Derived.Deep.WholeRow
import Derived.Laws.AppendOwn
import Derived.Deep.Slices
import Derived.Deep.Fields
import Derived.ChangeSame
import Derived.Carry
import Derived.Lib.SmallJoins
namespace Go.Proofs.YtjhfpobjbijcpaaGreatDoor.All
open Go.ChangeShapes Go.WideShapes Go.ChangeAt Go.RowKit
open Go.Proofs.YtjhfpobjbijcpaaGreatDoor.Ms
open Go.Proofs.YtjhfpobjbijcpaaGreatDoor.Box
open Go.Proofs.YtjhfpobjbijcpaaGreatDoor.Same
open Go.Proofs.YtjhfpobjbijcpaaGreatDoor.SameP
open Go.Proofs.YtjhfpobjbijcpaaGreatDoor.RSame
open Go.Proofs.YtjhfpobjbijcpaaGreatDoor.Hs
open Go.Proofs.YtjhfpobjbijcpaaGreatDoor.Few
set_option linter.unusedVariables false
set_option maxRecDepth 100000

/-- The messages of a list stand in w. -/
def MRow (w : World) (a : Option Addr) (l : List M) : Prop :=
  ∀ i (h : i < l.length), ∃ p, a = some p ∧ p.block < w.heap.size ∧ (∀ j v, (l[i].cells.toList)[j]? = some v → w.cell? ((p.add (i * 25)).add j) = some v) ∧ DRow w l[i].la l[i].ll ∧ SRow w l[i].sa l[i].sl
theorem MRow.below {w w' : World} {a : Option Addr} {l : List M} (h : MRow w a l) (hb : Below w.heap.size w w') : MRow w' a l := by
  intro i hi
  obtain ⟨p, h1, h2, h3, h4, h5⟩ := h i hi
  refine ⟨p, h1, Nat.lt_of_lt_of_le h2 hb.size, fun j v hv => ?_, h4.below hb, h5.below hb⟩
  rw [hb.cell (by rw [add_block, add_block]; exact h2)]
  exact h3 j v hv
theorem MRow.nil (w : World) (a : Option Addr) : MRow w a [] := fun i hi => absurd hi (by simp)
theorem loadVarA {w : World} {q : Addr} {m : M} (h : ∀ j v, (m.cells.toList)[j]? = some v → w.cell? (q.add j) = some v) : (loadVar 38 q).run Tryz.prog w = .ok (.agg m.cells) w := by
  have hl : (loadCells q 25).run Tryz.prog w = .ok m.cells w := by
    have := run_loadCells_list (P := Tryz.prog) w q m.cells.toList h
    rw [show m.cells.toList.length = 25 from rfl] at this
    rw [this]
  have hagg : (isAgg 38).run Tryz.prog w = .ok true w := by go_simp
  have hsz : (sizeOf 38).run Tryz.prog w = .ok 25 w := by go_simp
  simp only [loadVar, Sem.run_bind, hagg, Result.andThen_ok, if_true, hsz, hl, Sem.run_pure]
theorem ex_loadA {o : Oper} {ρ : Operand → Value} {x : Operand} {q : Addr} {m : M} {w : World} (ho : o.op = .load 38 x) (hx : ρ x = .pointer (some q)) (h : ∀ j v, (m.cells.toList)[j]? = some v → w.cell? (q.add j) = some v) :
    (execOp ρ o).run Tryz.prog w = .ok (.value (.agg m.cells)) w := by
  unfold execOp
  simp only [ho, hx, Instr.loadAt, Instr.sureAddr, Sem.run_bind, Sem.run_pure, Result.andThen_ok, loadVarA h]
theorem wpList_loadA {ops : Array Oper} {rest : List Oper} {o : Oper} {a : Act} {w : World} {Q : Exit → Act → World → Prop} (hgd : o.guard = none) (x : Operand) (ho : o.op = .load 38 x)
    {q : Addr} (hx : a.eval x = .pointer (some q)) {m : M} (hm : ∀ j v, (m.cells.toList)[j]? = some v → w.cell? (q.add j) = some v)
    (h : wpList Tryz.prog ops Q rest (a.put o.dst (.agg m.cells)) w) : wpList Tryz.prog ops Q (o :: rest) a w :=
  wpList_plain hgd fun K hK => by
    unfold Oper.wp
    rw [ex_loadA ho hx hm]
    exact hK _ _ h

theorem indexM (p : Addr) (n c i : Nat) (h : i < n) (W : World) : (Instr.indexAt 22 (.slice (some p) n c) (.int .i64 (i : Int))).run Tryz.prog W = .ok (.pointer (some (p.add (i * 25)))) W := by
  have he : Tryz.prog.elem 22 = 38 := by simp [Program.elem, Tryz.underlying22]
  have hz : (sizeOf 38).run Tryz.prog W = .ok 25 W := by go_simp
  rw [run_indexAt_slice W 22 p n c .i64 (i : Int) (by rw [he]; exact Tryz.underlying22), if_pos (by omega), he, hz]
  rfl

/-- Few messages, each of few parts? -/
def fewL (l : List M) (n : Int) : Bool := decide ((l.length : Int) ≤ n) && l.all fewB
theorem all_take (l : List M) (k : Nat) (h : k < l.length) : (l.take (k + 1)).all fewB = ((l.take k).all fewB && fewB l[k]) := by
  rw [List.take_succ_eq_append_getElem h, List.all_append]
  simp
theorem all_not (l : List M) (k : Nat) (h : k < l.length) (hn : fewB l[k] = false) : l.all fewB = false := by
  rw [List.all_eq_false]
  exact ⟨l[k], List.getElem_mem h, by rw [hn]; simp⟩

set_option maxHeartbeats 3200000 in
theorem fewAll_any (a : Option Addr) (c : Nat) (l : List M) (n : Int) (w : World) (hl : MRow w a l) (hn : l.length ≤ 9223372036854775807) :
    Calls Tryz.prog 6 #[.slice a l.length c, .int .i64 n] w fun e w' => e = .returned (.bool (fewL l n)) ∧ Below w.heap.size w w' := by
  have HFL := Lib.hid (show fewL l n = (decide ((l.length : Int) ≤ n) && l.all fewB) from rfl)
  go_enter Tryz.func6, Tryz.ntmps6
  by_cases h0 : n < (l.length : Int)
  · go_wp2
    go_ret
    exact ⟨bool_eq (by rw [HFL.out]; simp; omega), Below.refl _ _⟩
  have HF2 : Hid (fewL l n = l.all fewB) := Lib.hid (by rw [HFL.out]; simp [show (l.length : Int) ≤ n by omega])
  clear HFL
  go_wp2
  clear h0
  go_loopw [5] (fun i wr => ∃ k : Nat, k ≤ l.length ∧ i = .int .i64 k ∧ Hid ((l.take k).all fewB = true) ∧ Hid (Below w.heap.size w wr)) (fun i _ => l.length - (intOf i).toNat)
  case atStart => exact ⟨0, Nat.zero_le _, rfl, Lib.hid rfl, Lib.hid (Below.refl _ _)⟩
  case round =>
    obtain ⟨k, hk, rfl, HN, HB⟩ := hrel
    by_cases hlt : k < l.length
    · obtain ⟨p, rfl, _, hc, hd, hs⟩ := (hl.below HB.out) k hlt
      have P := Lib.hid (few_any l[k] wr hd hs)
      have HT := Lib.hid (all_take l k hlt)
      have HF := Lib.hid (all_not l k hlt)
      have HC := Lib.hid hc
      clear hl hc hd hs
      generalize l[k] = u at *
      cases hu : fewB u
      · have HU := Lib.hid hu
        rw [hu] at P
        clear hu
        go_wp2_with (first | (refine wpList_loadA (m := u) rfl _ rfl rfl HC.out ?_))
        refine P.out.mono ?_
        rintro e w1 ⟨rfl, hb1⟩
        go_wp2
        go_ret
        exact ⟨bool_eq (by rw [HF2.out, HF.out HU.out]), bcall HB.out hb1⟩
      · have HU := Lib.hid hu
        rw [hu] at P
        clear hu
        go_wp2_with (first | (refine wpList_loadA (m := u) rfl _ rfl rfl HC.out ?_))
        refine P.out.mono ?_
        rintro e w1 ⟨rfl, hb1⟩
        have HB1 := Lib.hid (bcall HB.out hb1)
        clear hb1
        go_wp2
        go_roundw
        case rel => exact ⟨k + 1, hlt, by go_num, Lib.hid (by rw [HT.out, HN.out, HU.out]; rfl), HB1⟩
        case measure => simp [intOf]; omega
    · obtain rfl : k = l.length := by omega
      go_wp2
      go_ret
      exact ⟨bool_eq (by rw [HF2.out]; have := HN.out; rw [List.take_length] at this; exact this.symm), HB.out⟩

end Go.Proofs.YtjhfpobjbijcpaaGreatDoor.All
namespace Go.Proofs.YtjhfpobjbijcpaaGreatDoor.Ap
open Go.ChangeShapes Go.WideShapes Go.ChangeAt Go.RowKit
open Go.Proofs.YtjhfpobjbijcpaaGreatDoor.Ms
open Go.Proofs.YtjhfpobjbijcpaaGreatDoor.Box
open Go.Proofs.YtjhfpobjbijcpaaGreatDoor.All
set_option linter.unusedVariables false
set_option maxRecDepth 100000
set_option maxRecDepth 100000

theorem build_one (m : M) (w : World) : (Instr.buildSlice 22 1 #[(0, .agg m.cells)]).run Tryz.prog w = .ok (.slice (some ⟨w.heap.size, 0, none⟩) 1 1) (w.alloc (.cells m.cells 38)) := by
  kernel_rfl
theorem ex_bs {o : Oper} {ρ : Operand → Value} {x : Operand} {m : M} {w : World} (ho : o.op = .buildSlice 22 1 #[(0, x)]) (hx : ρ x = .agg m.cells) :
    (execOp ρ o).run Tryz.prog w = .ok (.value (.slice (some ⟨w.heap.size, 0, none⟩) 1 1)) (w.alloc (.cells m.cells 38)) := by
  have e : ((#[(0, x)] : Array (Nat × Operand)).map fun (i, x) => (i, ρ x)) = #[(0, .agg m.cells)] := by simp [hx]
  unfold execOp
  simp only [ho, Sem.run_bind, e, build_one, Result.andThen_ok, Sem.run_pure]
theorem bs_one {ops : Array Oper} {rest : List Oper} {o : Oper} {a : Act} {w : World} {Q : Exit → Act → World → Prop} (hgd : o.guard = none) (x : Operand) (ho : o.op = .buildSlice 22 1 #[(0, x)])
    {m : M} (hx : a.eval x = .agg m.cells) (h : wpList Tryz.prog ops Q rest (a.put o.dst (.slice (some ⟨w.heap.size, 0, none⟩) 1 1)) (w.alloc (.cells m.cells 38))) : wpList Tryz.prog ops Q (o :: rest) a w :=
  wpList_plain hgd fun K hK => by
    unfold Oper.wp
    rw [ex_bs ho hx]
    exact hK _ _ h
theorem add_at (g o j : Nat) : (⟨g, o, none⟩ : Addr).add j = ⟨g, o + j, none⟩ := by
  unfold Addr.add
  split
  · rename_i h; rw [h]; rfl
  · rfl
theorem cells_new (m : M) (w : World) : ∀ j u, (m.cells.toList)[j]? = some u → (w.alloc (.cells m.cells 38)).cell? ((⟨w.heap.size, 0, none⟩ : Addr).add j) = some u := by
  intro j u hu
  have := (Bx.new w m).cell j u (by simpa using hu)
  rw [add_at, Nat.zero_add]
  exact this

end Go.Proofs.YtjhfpobjbijcpaaGreatDoor.Ap
namespace Go.Proofs.YtjhfpobjbijcpaaGreatDoor.Hy
open Go.ChangeShapes Go.WideShapes Go.ChangeAt Go.RowKit
open Go.Proofs.YtjhfpobjbijcpaaGreatDoor.Ms
set_option linter.unusedVariables false
set_option maxRecDepth 100000
set_option maxRecDepth 100000
section
variable {P : Program} {ops : Array Oper} {Q : Exit → Act → World → Prop} {md : Region.Mode} {S : World → Prop}
theorem H.one {i : Nat} {o : Oper} {fuel : Nat} {listed : Array Bool} {a : Act} {w : World}
    (ho : ops[i]? = some o) (hw : Region.wanted o (yielded ops a.tmps) = true) (hr : Region.ready md ops listed = [i])
    (h : ∀ K : Act → World → Prop, Hid (∀ a' w', S w' → wpAnyH P md ops Q S fuel (listed.setIfInBounds i true) a' w' → K a' w') → Oper.wp P o a w K Q) : wpAnyH P md ops Q S (fuel + 1) listed a w := by
  refine wpAnyH_ready (rs := [i]) hr (by simp) ?_
  refine AllReadyH.cons ho (fun K hK => ?_) AllReadyH.nil
  rw [if_pos hw]
  exact h K (Lib.hid (fun a' w' hS hW => hK.out a' w' hS (fun _ => hW)))
theorem H.two {i j : Nat} {o o' : Oper} {fuel : Nat} {listed : Array Bool} {a : Act} {w : World}
    (ho : ops[i]? = some o) (hw : Region.wanted o (yielded ops a.tmps) = true) (ho' : ops[j]? = some o') (hw' : Region.wanted o' (yielded ops a.tmps) = true) (hr : Region.ready md ops listed = [i, j])
    (h : ∀ K : Act → World → Prop, Hid (∀ a' w', S w' → wpAnyH P md ops Q S fuel (listed.setIfInBounds i true) a' w' → K a' w') → Oper.wp P o a w K Q)
    (h' : ∀ K : Act → World → Prop, Hid (∀ a' w', S w' → wpAnyH P md ops Q S fuel (listed.setIfInBounds j true) a' w' → K a' w') → Oper.wp P o' a w K Q) : wpAnyH P md ops Q S (fuel + 1) listed a w := by
  refine wpAnyH_ready (rs := [i, j]) hr (by simp) ?_
  refine AllReadyH.cons ho (fun K hK => ?_) (AllReadyH.cons ho' (fun K hK => ?_) AllReadyH.nil)
  · rw [if_pos hw]
    exact h K (Lib.hid (fun a' w' hS hW => hK.out a' w' hS (fun _ => hW)))
  · rw [if_pos hw']
    exact h' K (Lib.hid (fun a' w' hS hW => hK.out a' w' hS (fun _ => hW)))
theorem wp_valW {o : Oper} {a : Act} {w w' : World} {K : Act → World → Prop} {d : Nat} {v : Value} (hd : o.dst = some d) (hy : (execOp a.eval o).run P w = .ok (.value v) w') (h : K (a.put (some d) v) w') : Oper.wp P o a w K Q := by
  unfold Oper.wp
  rw [hy]
  simp only [Oper.upon, hd]
  exact h
end
end Go.Proofs.YtjhfpobjbijcpaaGreatDoor.Hy
namespace Go.Proofs.YtjhfpobjbijcpaaGreatDoor.Open
open Go.ChangeShapes Go.WideShapes Go.ChangeAt Go.RowKit Go.Deep
open Go.Proofs.YtjhfpobjbijcpaaGreatDoor.Ms
open Go.Proofs.YtjhfpobjbijcpaaGreatDoor.Box
open Go.Proofs.YtjhfpobjbijcpaaGreatDoor.Few
open Go.Proofs.YtjhfpobjbijcpaaGreatDoor.All
set_option linter.unusedVariables false
set_option maxRecDepth 100000

section
variable {H : Type} {enc : TypeId × Value → H} {W : World}

/-- A struct whose fields take one cell each reads field by field: field j's reading is that of cell j. -/
theorem each_field {t : TypeId} {fds : Array Field} (ht : Tryz.prog.underlying t = some (.struct fds)) (hone : oneCellFields Tryz.prog fds = true) {fuel : Nat} {cs : List Value} {x : DataW H × List MemPlace}
    (h : DataW.trod enc Tryz.prog W 0 (fun _ => true) true fuel t cs = some x) :
    cs.length = Tryz.prog.cellsOf t ∧ ∃ n, ∀ (j : Nat) (f : Field), fds[j]? = some f → ∃ y, DataW.trod enc Tryz.prog W 0 (fun _ => true) true n f.type ((cs.drop j).take 1) = some y := by
  obtain ⟨xs, n, _, _, hlen, hxl, hf⟩ := DataW.trod_struct ht h
  refine ⟨hlen, n, fun j f hj => ?_⟩
  have h1 := hf j f hj
  rw [(hone_of hone j f hj).1, (hone_of hone j f hj).2] at h1
  have hjl : j < xs.length := by rw [hxl]; exact (Array.getElem?_eq_some_iff.1 hj).1
  exact ⟨xs[j], h1.trans (List.getElem?_eq_getElem hjl)⟩

theorem els {α : Type} {n : Nat} {R : Nat → α → Prop} (h : ∀ i, i < n → ∃ x, R i x) : ∃ l : List α, l.length = n ∧ ∀ i (hi : i < l.length), R i l[i] := by
  induction n with
  | zero => exact ⟨[], rfl, fun i hi => absurd hi (by simp)⟩
  | succ n ih =>
    obtain ⟨l, hl, hr⟩ := ih fun i hi => h i (by omega)
    obtain ⟨x, hx⟩ := h n (by omega)
    refine ⟨l ++ [x], by simp [hl], fun i hi => ?_⟩
    by_cases hin : i < l.length
    · rw [List.getElem_append_left hin]; exact hr i hin
    · obtain rfl : i = l.length := by simp at hi; omega
      rw [List.getElem_append_right (Nat.le_refl _)]
      simp only [Nat.sub_self, List.getElem_cons_zero]
      rw [hl]; exact hx

theorem open_dests {fuel : Nat} {cs : List Value} {x : DataW H × List MemPlace} (h : DataW.trod enc Tryz.prog W 0 (fun _ => true) true fuel 35 cs = some x) :
    ∃ (a : Option Addr) (l : List El) (c : Nat), cs = [.slice a l.length c] ∧ DRow W a l ∧ l.length ≤ 9223372036854775807 := by
  have hz : Tryz.prog.cellsOf 57 = 2 := by kernel_rfl
  rcases open_slice Tryz.underlying35 h with h0 | ⟨a, len, cap, m, n, D, Pl, hcs, _, hl, hm, hmm, _, hi⟩
  · exact ⟨none, [], 0, h0.1, DRow.nil _ _, by simp⟩
  · obtain ⟨l, hll, hr⟩ := els (n := len) (R := fun i (x : El) => W.cell? (a.add (i * 2)) = some (.string x.1) ∧ W.cell? ((a.add (i * 2)).add 1) = some (.int .i64 x.2)) (fun i hin => by
      obtain ⟨ds, hc, ht⟩ := hi i (by rw [hmm]; split <;> omega)
      rw [hz] at hc
      obtain ⟨hlen, k, hf⟩ := each_field Tryz.underlying57 (by kernel_rfl) ht
      rw [hz] at hlen
      obtain ⟨_, _, hat⟩ := World.cells?_some hc
      have e0 := hat 0 (by decide)
      have e1 := hat 1 (by decide)
      match ds, hlen with
      | [d0, d1], _ =>
        obtain ⟨y0, g0⟩ := hf 0 _ rfl
        obtain ⟨y1, g1⟩ := hf 1 _ rfl
        obtain ⟨u0, q0, _, _⟩ := DataW.trod_string Tryz.underlying9 (show DataW.trod enc Tryz.prog W 0 (fun _ => true) true k 9 [d0] = some y0 from g0)
        obtain ⟨u1, q1, _, _⟩ := DataW.trod_int Tryz.underlying3 (show DataW.trod enc Tryz.prog W 0 (fun _ => true) true k 3 [d1] = some y1 from g1)
        obtain rfl := (List.cons.inj q0).1
        obtain rfl := (List.cons.inj q1).1
        exact ⟨(u0, u1), e0, e1⟩)
    refine ⟨some a, l, cap, by rw [hll]; exact hcs, fun i hin => ⟨a, rfl, ?_, hr i hin⟩, by unfold maxLen at hm; omega⟩
    have := block_lt_of_cell (hr i hin).1
    rwa [add_block] at this
theorem open_subs {fuel : Nat} {cs : List Value} {x : DataW H × List MemPlace} (h : DataW.trod enc Tryz.prog W 0 (fun _ => true) true fuel 36 cs = some x) :
    ∃ (a : Option Addr) (l : List El) (c : Nat), cs = [.slice a l.length c] ∧ SRow W a l ∧ l.length ≤ 9223372036854775807 := by
  have hz : Tryz.prog.cellsOf 59 = 2 := by kernel_rfl
  rcases open_slice Tryz.underlying36 h with h0 | ⟨a, len, cap, m, n, D, Pl, hcs, _, hl, hm, hmm, _, hi⟩
  · exact ⟨none, [], 0, h0.1, SRow.nil _ _, by simp⟩
  · obtain ⟨l, hll, hr⟩ := els (n := len) (R := fun i (x : El) => W.cell? (a.add (i * 2)) = some (.int .i64 x.2) ∧ W.cell? ((a.add (i * 2)).add 1) = some (.string x.1)) (fun i hin => by
      obtain ⟨ds, hc, ht⟩ := hi i (by rw [hmm]; split <;> omega)
      rw [hz] at hc
      obtain ⟨hlen, k, hf⟩ := each_field Tryz.underlying59 (by kernel_rfl) ht
      rw [hz] at hlen
      obtain ⟨_, _, hat⟩ := World.cells?_some hc
      have e0 := hat 0 (by decide)
      have e1 := hat 1 (by decide)
      match ds, hlen with
      | [d0, d1], _ =>
        obtain ⟨y0, g0⟩ := hf 0 _ rfl
        obtain ⟨y1, g1⟩ := hf 1 _ rfl
        obtain ⟨u0, q0, _, _⟩ := DataW.trod_int Tryz.underlying3 (show DataW.trod enc Tryz.prog W 0 (fun _ => true) true k 3 [d0] = some y0 from g0)
        obtain ⟨u1, q1, _, _⟩ := DataW.trod_string Tryz.underlying9 (show DataW.trod enc Tryz.prog W 0 (fun _ => true) true k 9 [d1] = some y1 from g1)
        obtain rfl := (List.cons.inj q0).1
        obtain rfl := (List.cons.inj q1).1
        exact ⟨(u1, u0), e0, e1⟩)
    refine ⟨some a, l, cap, by rw [hll]; exact hcs, fun i hin => ⟨a, rfl, ?_, hr i hin⟩, by unfold maxLen at hm; omega⟩
    have := block_lt_of_cell (hr i hin).1
    rwa [add_block] at this

theorem cellsM : Tryz.prog.cellsOf 38 = 25 := by kernel_rfl

set_option maxHeartbeats 1600000 in
theorem open_msg {fuel : Nat} {cs : List Value} {x : DataW H × List MemPlace} (h : DataW.trod enc Tryz.prog W 0 (fun _ => true) true fuel 38 cs = some x) :
    ∃ m : M, cs = m.cells.toList ∧ DRow W m.la m.ll ∧ SRow W m.sa m.sl := by
  obtain ⟨hlen, n, go⟩ := each_field Tryz.underlying38 (by kernel_rfl) h
  rw [cellsM] at hlen
  clear h
  match cs, hlen with
  | [c0, c1, c2, c3, c4, c5, c6, c7, c8, c9, c10, c11, c12, c13, c14, c15, c16, c17, c18, c19, c20, c21, c22, c23, c24], _ =>
    obtain ⟨y0, h0⟩ := go 0 _ rfl
    obtain ⟨k0, e0, _, _⟩ := DataW.trod_int Tryz.underlying3 (show DataW.trod enc Tryz.prog W 0 (fun _ => true) true n 3 [c0] = some y0 from h0)
    obtain rfl := (List.cons.inj e0).1
    clear e0
    obtain ⟨y1, h1⟩ := go 1 _ rfl
    obtain ⟨k1, e1, _, _⟩ := DataW.trod_int Tryz.underlying3 (show DataW.trod enc Tryz.prog W 0 (fun _ => true) true n 3 [c1] = some y1 from h1)
    obtain rfl := (List.cons.inj e1).1
    clear e1
    obtain ⟨y2, h2⟩ := go 2 _ rfl
    obtain ⟨k2, e2, _, _⟩ := DataW.trod_int Tryz.underlying3 (show DataW.trod enc Tryz.prog W 0 (fun _ => true) true n 3 [c2] = some y2 from h2)
    obtain rfl := (List.cons.inj e2).1
    clear e2
    obtain ⟨y3, h3⟩ := go 3 _ rfl
    obtain ⟨k3, e3, _, _⟩ := DataW.trod_string Tryz.underlying9 (show DataW.trod enc Tryz.prog W 0 (fun _ => true) true n 9 [c3] = some y3 from h3)
    obtain rfl := (List.cons.inj e3).1
    clear e3
    obtain ⟨y4, h4⟩ := go 4 _ rfl
    obtain ⟨k4, e4, _, _⟩ := DataW.trod_int Tryz.underlying3 (show DataW.trod enc Tryz.prog W 0 (fun _ => true) true n 3 [c4] = some y4 from h4)
    obtain rfl := (List.cons.inj e4).1
    clear e4
    obtain ⟨y5, h5⟩ := go 5 _ rfl
    obtain ⟨k5, e5, _, _⟩ := DataW.trod_int Tryz.underlying3 (show DataW.trod enc Tryz.prog W 0 (fun _ => true) true n 3 [c5] = some y5 from h5)
    obtain rfl := (List.cons.inj e5).1
    clear e5
    obtain ⟨y6, h6⟩ := go 6 _ rfl
    obtain ⟨k6, e6, _, _⟩ := DataW.trod_string Tryz.underlying9 (show DataW.trod enc Tryz.prog W 0 (fun _ => true) true n 9 [c6] = some y6 from h6)
    obtain rfl := (List.cons.inj e6).1
    clear e6
    obtain ⟨y7, h7⟩ := go 7 _ rfl
    obtain ⟨k7, e7, _, _⟩ := DataW.trod_int Tryz.underlying3 (show DataW.trod enc Tryz.prog W 0 (fun _ => true) true n 3 [c7] = some y7 from h7)
    obtain rfl := (List.cons.inj e7).1
    clear e7
    obtain ⟨y8, h8⟩ := go 8 _ rfl
    obtain ⟨k8, e8, _, _⟩ := DataW.trod_int Tryz.underlying3 (show DataW.trod enc Tryz.prog W 0 (fun _ => true) true n 3 [c8] = some y8 from h8)
    obtain rfl := (List.cons.inj e8).1
    clear e8
    obtain ⟨y9, h9⟩ := go 9 _ rfl
    obtain ⟨k9, e9, _, _⟩ := DataW.trod_string Tryz.underlying9 (show DataW.trod enc Tryz.prog W 0 (fun _ => true) true n 9 [c9] = some y9 from h9)
    obtain rfl := (List.cons.inj e9).1
    clear e9
    obtain ⟨y10, h10⟩ := go 10 _ rfl
    obtain ⟨k10, e10, _, _⟩ := DataW.trod_int Tryz.underlying3 (show DataW.trod enc Tryz.prog W 0 (fun _ => true) true n 3 [c10] = some y10 from h10)
    obtain rfl := (List.cons.inj e10).1
    clear e10
    obtain ⟨y11, h11⟩ := go 11 _ rfl
    obtain ⟨k11, e11, _, _⟩ := DataW.trod_string Tryz.underlying9 (show DataW.trod enc Tryz.prog W 0 (fun _ => true) true n 9 [c11] = some y11 from h11)
    obtain rfl := (List.cons.inj e11).1
    clear e11
    obtain ⟨y12, h12⟩ := go 12 _ rfl
    obtain ⟨k12, e12, _, _⟩ := DataW.trod_int Tryz.underlying3 (show DataW.trod enc Tryz.prog W 0 (fun _ => true) true n 3 [c12] = some y12 from h12)
    obtain rfl := (List.cons.inj e12).1
    clear e12
    obtain ⟨y13, h13⟩ := go 13 _ rfl
    obtain ⟨k13, e13, _, _⟩ := DataW.trod_int Tryz.underlying3 (show DataW.trod enc Tryz.prog W 0 (fun _ => true) true n 3 [c13] = some y13 from h13)
    obtain rfl := (List.cons.inj e13).1
    clear e13
    obtain ⟨y14, h14⟩ := go 14 _ rfl
    obtain ⟨k14, e14, _, _⟩ := DataW.trod_int Tryz.underlying3 (show DataW.trod enc Tryz.prog W 0 (fun _ => true) true n 3 [c14] = some y14 from h14)
    obtain rfl := (List.cons.inj e14).1
    clear e14
    obtain ⟨y15, h15⟩ := go 15 _ rfl
    obtain ⟨k15, e15, _, _⟩ := DataW.trod_int Tryz.underlying3 (show DataW.trod enc Tryz.prog W 0 (fun _ => true) true n 3 [c15] = some y15 from h15)
    obtain rfl := (List.cons.inj e15).1
    clear e15
    obtain ⟨y16, h16⟩ := go 16 _ rfl
    obtain ⟨k16, e16, _, _⟩ := DataW.trod_int Tryz.underlying3 (show DataW.trod enc Tryz.prog W 0 (fun _ => true) true n 3 [c16] = some y16 from h16)
    obtain rfl := (List.cons.inj e16).1
    clear e16
    obtain ⟨y17, h17⟩ := go 17 _ rfl
    obtain ⟨k17, e17, _, _⟩ := DataW.trod_int Tryz.underlying3 (show DataW.trod enc Tryz.prog W 0 (fun _ => true) true n 3 [c17] = some y17 from h17)
    obtain rfl := (List.cons.inj e17).1
    clear e17
    obtain ⟨y18, h18⟩ := go 18 _ rfl
    obtain ⟨k18, e18, _, _⟩ := DataW.trod_int Tryz.underlying3 (show DataW.trod enc Tryz.prog W 0 (fun _ => true) true n 3 [c18] = some y18 from h18)
    obtain rfl := (List.cons.inj e18).1
    clear e18
    obtain ⟨y19, h19⟩ := go 19 _ rfl
    obtain ⟨k19, e19, _, _⟩ := DataW.trod_string Tryz.underlying9 (show DataW.trod enc Tryz.prog W 0 (fun _ => true) true n 9 [c19] = some y19 from h19)
    obtain rfl := (List.cons.inj e19).1
    clear e19
    obtain ⟨y20, h20⟩ := go 20 _ rfl
    obtain ⟨k20, e20, _, _⟩ := DataW.trod_string Tryz.underlying9 (show DataW.trod enc Tryz.prog W 0 (fun _ => true) true n 9 [c20] = some y20 from h20)
    obtain rfl := (List.cons.inj e20).1
    clear e20
    obtain ⟨y21, h21⟩ := go 21 _ rfl
    obtain ⟨a21, l21, n21, e21, r21, _⟩ := open_dests (show DataW.trod enc Tryz.prog W 0 (fun _ => true) true n 35 [c21] = some y21 from h21)
    obtain rfl := (List.cons.inj e21).1
    clear e21
    obtain ⟨y22, h22⟩ := go 22 _ rfl
    obtain ⟨k22, e22, _, _⟩ := DataW.trod_int Tryz.underlying3 (show DataW.trod enc Tryz.prog W 0 (fun _ => true) true n 3 [c22] = some y22 from h22)
    obtain rfl := (List.cons.inj e22).1
    clear e22
    obtain ⟨y23, h23⟩ := go 23 _ rfl
    obtain ⟨k23, e23, _, _⟩ := DataW.trod_string Tryz.underlying9 (show DataW.trod enc Tryz.prog W 0 (fun _ => true) true n 9 [c23] = some y23 from h23)
    obtain rfl := (List.cons.inj e23).1
    clear e23
    obtain ⟨y24, h24⟩ := go 24 _ rfl
    obtain ⟨a24, l24, n24, e24, r24, _⟩ := open_subs (show DataW.trod enc Tryz.prog W 0 (fun _ => true) true n 36 [c24] = some y24 from h24)
    obtain rfl := (List.cons.inj e24).1
    clear e24
    exact ⟨⟨k0, k1, k2, k3, k4, k5, k6, k7, k8, k9, k10, k11, k12, k13, k14, k15, k16, k17, k18, k19, k20, a21, l21, n21, k22, k23, a24, l24, n24⟩, rfl, r21, r24⟩

theorem laidOut : laidOutB Tryz.prog = true := by kernel_rfl
theorem again {t : TypeId} (hr : Tryz.prog.readableRec t = true) (hrow : t < Tryz.prog.types.size) {W' : World} {v : Value} {d : DataW H} {ps : List MemPlace}
    (h : DataW.Trod enc Tryz.prog W 0 (fun _ => true) true t v d ps) (hb : Below W.heap.size W W') (hlt : ∀ x ∈ ps, x.block < W.heap.size) :
    DataW.Trod enc Tryz.prog W' 0 (fun b => decide (b < W.heap.size)) true t v d ps := Below.trod laidOut hr hrow h hb hlt
end
end Go.Proofs.YtjhfpobjbijcpaaGreatDoor.Open
namespace Go.Proofs.YtjhfpobjbijcpaaGreatDoor.Kb
open Go.ChangeShapes Go.WideShapes Go.ChangeAt Go.RowKit Go.Joins
open Go.Proofs.YtjhfpobjbijcpaaGreatDoor.Ms
open Go.Proofs.YtjhfpobjbijcpaaGreatDoor.Box
open Go.Proofs.YtjhfpobjbijcpaaGreatDoor.All
open Go.Proofs.YtjhfpobjbijcpaaGreatDoor.An
open Go.Proofs.YtjhfpobjbijcpaaGreatDoor.K1
open Go.Proofs.YtjhfpobjbijcpaaGreatDoor.F1 (T)
open Go.Proofs.YtjhfpobjbijcpaaGreatDoor.Ap (add_at cells_new)
open Go.Proofs.YtjhfpobjbijcpaaGreatDoor.Open (each_field els open_msg)
open Go.Proofs.YtjhfpobjbijcpaaGreatDoor.Bk (Bk Sh alloc_size wpList_loadK wpList_storeK run_loadK)
open Go.Deep
set_option linter.unusedVariables false
set_option maxRecDepth 100000
set_option maxRecDepth 100000
theorem shX : Sh Tryz.prog 44 7 := ⟨_, Tryz.underlying44, by kernel_rfl⟩
theorem oneX (x : Kx) : (x.cells.all fun x => x.oneCell') = true := by simp [Kx.cells, Value.oneCell']
theorem wpList_loadX {ops : Array Oper} {rest : List Oper} {o : Oper} {a : Act} {w : World} {Q : Exit → Act → World → Prop} (hgd : o.guard = none) (x : Operand) (ho : o.op = .load 44 x) {b : Nat} (hx : a.eval x = .pointer (some ⟨b, 0, none⟩)) {m : Kx} (hb : Bk 44 w b m.cells)
    (h : wpList Tryz.prog ops Q rest (a.put o.dst (.agg m.cells)) w) : wpList Tryz.prog ops Q (o :: rest) a w := wpList_loadK shX hgd x ho hx hb rfl h
theorem wpList_storeX {ops : Array Oper} {rest : List Oper} {o : Oper} {a : Act} {w : World} {Q : Exit → Act → World → Prop} (hgd : o.guard = none) (x y : Operand) (ho : o.op = .store 44 x y) {b : Nat} (hx : a.eval x = .pointer (some ⟨b, 0, none⟩)) {m m' : Kx} (hy : a.eval y = .agg m'.cells) (hb : Bk 44 w b m.cells)
    (h : wpList Tryz.prog ops Q rest (a.put o.dst undef) (w.setRow b m'.cells)) : wpList Tryz.prog ops Q (o :: rest) a w := wpList_storeK shX hgd x y ho hx hy hb rfl rfl (oneX m') h

section
variable {H : Type} {enc : TypeId × Value → H} {W : World}
theorem open_msgP {fuel : Nat} {cs : List Value} {x : DataW H × List MemPlace} (h : DataW.trod enc Tryz.prog W 0 (fun _ => true) true fuel 38 cs = some x) :
    ∃ m : M, cs = m.cells.toList ∧ DRow W m.la m.ll ∧ SRow W m.sa m.sl ∧ m.pfx.size ≤ maxLen := by
  obtain ⟨m, rfl, hd, hs⟩ := open_msg h
  refine ⟨m, rfl, hd, hs, ?_⟩
  obtain ⟨_, n, go⟩ := each_field Tryz.underlying38 (by kernel_rfl) h
  obtain ⟨y6, h6⟩ := go 6 _ rfl
  obtain ⟨k6, e6, _, z6⟩ := DataW.trod_string Tryz.underlying9 (show DataW.trod enc Tryz.prog W 0 (fun _ => true) true n 9 [.string m.pfx] = some y6 from h6)
  have e : m.pfx = k6 := by
    have := (List.cons.inj e6).1
    injection this
  rw [e]
  exact z6
end
end Go.Proofs.YtjhfpobjbijcpaaGreatDoor.Kb
