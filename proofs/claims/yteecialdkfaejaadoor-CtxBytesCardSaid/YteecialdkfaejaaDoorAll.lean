/-
  Whether two lists of messages are the same: the program's answer (slices.EqualFunc) and the document's; whether a list has few messages. Condition: lists within of at most 2^20 elements.
-/
import Derived.Test.YteecialdkfaejaaDoorFew
import Derived.Test.YteecialdkfaejaaDoorP4
import Derived.Deep.WholeRow
namespace Go.Proofs.YteecialdkfaejaaDoor.All
open Go.ChangeShapes Go.WideShapes Go.ChangeAt Go.RowKit
open Go.Proofs.YteecialdkfaejaaDoor.Ms
open Go.Proofs.YteecialdkfaejaaDoor.Box
open Go.Proofs.YteecialdkfaejaaDoor.Same
open Go.Proofs.YteecialdkfaejaaDoor.SameP
open Go.Proofs.YteecialdkfaejaaDoor.RSame
open Go.Proofs.YteecialdkfaejaaDoor.Hs
open Go.Proofs.YteecialdkfaejaaDoor.Few
set_option linter.unusedVariables false
set_option maxRecDepth 100000

/-- The messages of a list stand in w. -/
def MRow (w : World) (a : Option Addr) (l : List M) : Prop :=
  ∀ i (h : i < l.length), ∃ p, a = some p ∧ p.block < w.heap.size ∧ (∀ j v, (l[i].cells.toList)[j]? = some v → w.cell? ((p.add (i * 25)).add j) = some v) ∧ DRow w l[i].la l[i].ll ∧ SRow w l[i].sa l[i].sl
theorem MRow.below {w w' : World} {a : Option Addr} {l : List M} (h : MRow w a l) (hb : Below w.heap.size w w') : MRow w' a l := by
  intro i hi
  obtain ⟨p, h1, h2, h3, h4, h5⟩ := h i hi
  refine ⟨p, h1, Nat.lt_of_lt_of_le h2 hb.size, fun j v hv => ?_, h4.below hb, h5.below hb⟩
  rw [hb.cell (by rw [add_block, add_block]; exact h2)]
  exact h3 j v hv
theorem MRow.nil (w : World) (a : Option Addr) : MRow w a [] := fun i hi => absurd hi (by simp)
/-- No list within is long. -/
def Short (m : M) : Prop := m.ll.length ≤ 1048576 ∧ m.sl.length ≤ 1048576

theorem loadVarA {w : World} {q : Addr} {m : M} (h : ∀ j v, (m.cells.toList)[j]? = some v → w.cell? (q.add j) = some v) : (loadVar 40 q).run Tryd.prog w = .ok (.agg m.cells) w := by
  have hl : (loadCells q 25).run Tryd.prog w = .ok m.cells w := by
    have := run_loadCells_list (P := Tryd.prog) w q m.cells.toList h
    rw [show m.cells.toList.length = 25 from rfl] at this
    rw [this]
  have hagg : (isAgg 40).run Tryd.prog w = .ok true w := by go_simp
  have hsz : (sizeOf 40).run Tryd.prog w = .ok 25 w := by go_simp
  simp only [loadVar, Sem.run_bind, hagg, Result.andThen_ok, if_true, hsz, hl, Sem.run_pure]
theorem ex_loadA {o : Oper} {ρ : Operand → Value} {x : Operand} {q : Addr} {m : M} {w : World} (ho : o.op = .load 40 x) (hx : ρ x = .pointer (some q)) (h : ∀ j v, (m.cells.toList)[j]? = some v → w.cell? (q.add j) = some v) :
    (execOp ρ o).run Tryd.prog w = .ok (.value (.agg m.cells)) w := by
  unfold execOp
  simp only [ho, hx, Instr.loadAt, Instr.sureAddr, Sem.run_bind, Sem.run_pure, Result.andThen_ok, loadVarA h]
theorem wpList_loadA {ops : Array Oper} {rest : List Oper} {o : Oper} {a : Act} {w : World} {Q : Exit → Act → World → Prop} (hgd : o.guard = none) (x : Operand) (ho : o.op = .load 40 x)
    {q : Addr} (hx : a.eval x = .pointer (some q)) {m : M} (hm : ∀ j v, (m.cells.toList)[j]? = some v → w.cell? (q.add j) = some v)
    (h : wpList Tryd.prog ops Q rest (a.put o.dst (.agg m.cells)) w) : wpList Tryd.prog ops Q (o :: rest) a w :=
  wpList_plain hgd fun K hK => by
    unfold Oper.wp
    rw [ex_loadA ho hx hm]
    exact hK _ _ h

theorem indexM (p : Addr) (n c i : Nat) (h : i < n) (W : World) : (Instr.indexAt 30 (.slice (some p) n c) (.int .i64 (i : Int))).run Tryd.prog W = .ok (.pointer (some (p.add (i * 25)))) W := by
  have he : Tryd.prog.elem 30 = 40 := by simp [Program.elem, Tryd.underlying30]
  have hz : (sizeOf 40).run Tryd.prog W = .ok 25 W := by go_simp
  rw [run_indexAt_slice W 30 p n c .i64 (i : Int) (by rw [he]; exact Tryd.underlying30), if_pos (by omega), he, hz]
  rfl

/-- Few messages, each of few parts? -/
def fewL (l : List M) (n : Int) : Bool := decide ((l.length : Int) ≤ n) && l.all fewB
theorem all_take (l : List M) (k : Nat) (h : k < l.length) : (l.take (k + 1)).all fewB = ((l.take k).all fewB && fewB l[k]) := by
  rw [List.take_succ_eq_append_getElem h, List.all_append]
  simp
theorem all_not (l : List M) (k : Nat) (h : k < l.length) (hn : fewB l[k] = false) : l.all fewB = false := by
  rw [List.all_eq_false]
  exact ⟨l[k], List.getElem_mem h, by rw [hn]; simp⟩

open Classical in
/-- Are the lists the same? -/
noncomputable def sameL (x y : List M) : Bool := decide (x.length = y.length ∧ ∀ i (hx : i < x.length) (hy : i < y.length), M.same x[i] y[i] = true)
theorem sameL_yes {x y : List M} (hl : x.length = y.length) (h : ∀ i (hx : i < x.length) (hy : i < y.length), M.same x[i] y[i] = true) : sameL x y = true := by unfold sameL; exact decide_eq_true ⟨hl, h⟩
theorem sameL_len {x y : List M} (hl : x.length ≠ y.length) : sameL x y = false := by unfold sameL; exact decide_eq_false fun h => hl h.1
theorem sameL_at {x y : List M} {k : Nat} (hx : k < x.length) (hy : k < y.length) (h : M.same x[k] y[k] = false) : sameL x y = false := by
  unfold sameL
  exact decide_eq_false fun h2 => by have := h2.2 k hx hy; rw [h] at this; cases this
theorem same_refl (m : M) : M.same m m = true := by simp [M.same, M.flatE]

theorem ex_indexM {o : Oper} {ρ : Operand → Value} {x y : Operand} {p : Addr} {n c i : Nat} {w : World} (ho : o.op = .indexAddr 30 x y) (hx : ρ x = .slice (some p) n c) (hy : ρ y = .int .i64 (i : Int)) (h : i < n) :
    (execOp ρ o).run Tryd.prog w = .ok (.value (.pointer (some (p.add (i * 25))))) w := by
  unfold execOp
  simp only [ho, hx, hy, Sem.run_bind, indexM p n c i h, Result.andThen_ok, Sem.run_pure]

/-- What stays in the document's round. -/
def S3 (w : World) (p q : Addr) (u v : M) (W : World) : Prop := (∀ j x, (u.cells.toList)[j]? = some x → W.cell? (p.add j) = some x) ∧ (∀ j x, (v.cells.toList)[j]? = some x → W.cell? (q.add j) = some x) ∧ u.In W ∧ v.In W ∧ p.block < W.heap.size ∧ q.block < W.heap.size ∧ Below w.heap.size w W
theorem S3.keep {w : World} {p q : Addr} {u v : M} (W w1 : World) (h : S3 w p q u v W) (hb : Below W.heap.size W w1) : S3 w p q u v w1 :=
  ⟨fun j x hx => (hb.cell (p := p.add j) (by rw [add_block]; exact h.2.2.2.2.1)).trans (h.1 j x hx), fun j x hx => (hb.cell (p := q.add j) (by rw [add_block]; exact h.2.2.2.2.2.1)).trans (h.2.1 j x hx), h.2.2.1.below hb, h.2.2.2.1.below hb, Nat.lt_of_lt_of_le h.2.2.2.2.1 hb.size, Nat.lt_of_lt_of_le h.2.2.2.2.2.1 hb.size, bcall h.2.2.2.2.2.2 hb⟩

set_option maxHeartbeats 3200000 in
theorem rsameAll_any (a b : Option Addr) (ca cb : Nat) (x y : List M) (w : World) (hx : MRow w a x) (hy : MRow w b y) (sx : ∀ m ∈ x, Short m) (sy : ∀ m ∈ y, Short m) (lx : x.length ≤ 1048576) (ly : y.length ≤ 1048576) :
    Calls Tryd.prog 9 #[.slice a x.length ca, .slice b y.length cb] w fun e w' => e = .returned (.bool (sameL x y)) ∧ Below w.heap.size w w' := by
  by_cases hl : x.length = y.length
  · have HL := Lib.hid hl
    go_enter Tryd.func9, Tryd.ntmps9
    go_wp2
    go_loopw [5] (fun i wr => ∃ k : Nat, k ≤ x.length ∧ i = .int .i64 k ∧ Hid (∀ i, i < k → ∀ (hx : i < x.length) (hy : i < y.length), M.same x[i] y[i] = true) ∧ Hid (Below w.heap.size w wr)) (fun i _ => x.length - (intOf i).toNat)
    case atStart => exact ⟨0, Nat.zero_le _, rfl, Lib.hid (fun i hi => absurd hi (by omega)), Lib.hid (Below.refl _ _)⟩
    case round =>
      obtain ⟨k, hk, rfl, HT, HB⟩ := hrel
      by_cases hlt : k < x.length
      · have hlt2 : k < y.length := by omega
        obtain ⟨p, rfl, hp, hc, hcd, hcs⟩ := (hx.below HB.out) k hlt
        obtain ⟨q, rfl, hq, hd, hdd, hds⟩ := (hy.below HB.out) k hlt2
        have hsx := sx _ (List.getElem_mem hlt)
        have hsy := sy _ (List.getElem_mem hlt2)
        have HN := Lib.hid (fun h => sameL_at (x := x) (y := y) (k := k) hlt hlt2 h)
        have HS := Lib.hid (fun (h : M.same x[k] y[k] = true) => show ∀ i, i < k + 1 → ∀ (hx : i < x.length) (hy : i < y.length), M.same x[i] y[i] = true from fun i hi h1 h2 => by
          by_cases hik : i < k
          · exact HT.out i hik h1 h2
          · obtain rfl : i = k := by omega
            exact h)
        have H0 := Lib.hid (show S3 w (p.add (k * 25)) (q.add (k * 25)) x[k] y[k] wr.drew from S3.keep wr _ ⟨hc, hd, ⟨hcd, hcs, hsx.1, hsx.2⟩, ⟨hdd, hds, hsy.1, hsy.2⟩, by rw [add_block]; exact hp, by rw [add_block]; exact hq, HB.out⟩ (Below.refl _ _).drew)
        have P := Lib.hid (fun W (h : S3 w (p.add (k * 25)) (q.add (k * 25)) x[k] y[k] W) => heldP (S3 w (p.add (k * 25)) (q.add (k * 25)) x[k] y[k]) S3.keep (rsame_any x[k] y[k] W h.2.2.1 h.2.2.2.1) h)
        clear HT hx hy sx sy hc hd hcd hcs hdd hds hsx hsy hp hq hl HB
        generalize x[k] = u at *
        generalize y[k] = v at *
        cases hs : M.same u v
        · have HN1 := Lib.hid (HN.out hs)
          rw [hs] at P
          clear hs HN HS
          go_upto_region 6 with fail
          refine wp_region_held_drew (S := S3 w (p.add (k * 25)) (q.add (k * 25)) u v) (by kernel_rfl) H0.out (fun hS => ?_)
          clear H0
          generalize wr.drew = w0 at *
          refine H.tk (i := 0) (v := ?v0) ?h0 hS ?_
          case h0 => (intro w hw; go_simp; first | done | (with_reducible rfl))
          try simp only [Act.put, List.setIfInBounds_toArray, List.set_cons_zero, List.set_cons_succ]
          refine H.tk (i := 1) (v := ?v1) ?h1 hS ?_
          case h1 => (intro w hw; go_simp; first | done | (with_reducible rfl))
          try simp only [Act.put, List.setIfInBounds_toArray, List.set_cons_zero, List.set_cons_succ]
          refine H.tk (i := 2) (v := .pointer (some (p.add (k * 25)))) ?h2 hS ?_
          case h2 => exact fun w _ => ex_indexM (x := .tmp 17) (y := .tmp 18) rfl rfl rfl hlt
          try simp only [Act.put, List.setIfInBounds_toArray, List.set_cons_zero, List.set_cons_succ]
          refine H.tk (i := 3) (v := .agg (M.cells u)) ?h3 hS ?_
          case h3 => exact fun w hw => ex_loadA (x := .tmp 19) rfl rfl hw.1
          try simp only [Act.put, List.setIfInBounds_toArray, List.set_cons_zero, List.set_cons_succ]
          refine H.tk (i := 4) (v := ?v4) ?h4 hS ?_
          case h4 => (intro w hw; go_simp; first | done | (with_reducible rfl))
          try simp only [Act.put, List.setIfInBounds_toArray, List.set_cons_zero, List.set_cons_succ]
          refine H.tk (i := 5) (v := ?v5) ?h5 hS ?_
          case h5 => (intro w hw; go_simp; first | done | (with_reducible rfl))
          try simp only [Act.put, List.setIfInBounds_toArray, List.set_cons_zero, List.set_cons_succ]
          refine H.tk (i := 6) (v := .pointer (some (q.add (k * 25)))) ?h6 hS ?_
          case h6 => exact fun w _ => ex_indexM (x := .tmp 21) (y := .tmp 22) rfl rfl rfl hlt2
          try simp only [Act.put, List.setIfInBounds_toArray, List.set_cons_zero, List.set_cons_succ]
          refine H.tk (i := 7) (v := .agg (M.cells v)) ?h7 hS ?_
          case h7 => exact fun w hw => ex_loadA (x := .tmp 23) rfl rfl hw.2.1
          try simp only [Act.put, List.setIfInBounds_toArray, List.set_cons_zero, List.set_cons_succ]
          refine wpAnyH_ready (rs := [8]) (by kernel_rfl) (by simp) ?_
          refine AllReadyH.cons rfl (fun K hK => ?_) AllReadyH.nil
          go_simp
          refine (P.out _ hS).mono ?_
          rintro e w8 ⟨rfl, hS8⟩
          refine hK.out _ _ hS8 (fun _ => ?_)
          clear hK K hS
          have hS := hS8
          clear hS8
          try simp only [Act.put, List.setIfInBounds_toArray, List.set_cons_zero, List.set_cons_succ]
          refine H.tk (i := 9) (v := (.bool true)) (fun w _ => rfl) hS ?_
          try simp only [Act.put, List.setIfInBounds_toArray, List.set_cons_zero, List.set_cons_succ]
          refine wpAnyH_done (by kernel_rfl) ?_ _
          go_wp2
          go_ret
          exact ⟨bool_eq (by rw [HN1.out]), hS.2.2.2.2.2.2⟩
        · have HS1 := Lib.hid (HS.out hs)
          rw [hs] at P
          clear hs HN HS
          go_upto_region 6 with fail
          refine wp_region_held_drew (S := S3 w (p.add (k * 25)) (q.add (k * 25)) u v) (by kernel_rfl) H0.out (fun hS => ?_)
          clear H0
          generalize wr.drew = w0 at *
          refine H.tk (i := 0) (v := ?v0) ?h0 hS ?_
          case h0 => (intro w hw; go_simp; first | done | (with_reducible rfl))
          try simp only [Act.put, List.setIfInBounds_toArray, List.set_cons_zero, List.set_cons_succ]
          refine H.tk (i := 1) (v := ?v1) ?h1 hS ?_
          case h1 => (intro w hw; go_simp; first | done | (with_reducible rfl))
          try simp only [Act.put, List.setIfInBounds_toArray, List.set_cons_zero, List.set_cons_succ]
          refine H.tk (i := 2) (v := .pointer (some (p.add (k * 25)))) ?h2 hS ?_
          case h2 => exact fun w _ => ex_indexM (x := .tmp 17) (y := .tmp 18) rfl rfl rfl hlt
          try simp only [Act.put, List.setIfInBounds_toArray, List.set_cons_zero, List.set_cons_succ]
          refine H.tk (i := 3) (v := .agg (M.cells u)) ?h3 hS ?_
          case h3 => exact fun w hw => ex_loadA (x := .tmp 19) rfl rfl hw.1
          try simp only [Act.put, List.setIfInBounds_toArray, List.set_cons_zero, List.set_cons_succ]
          refine H.tk (i := 4) (v := ?v4) ?h4 hS ?_
          case h4 => (intro w hw; go_simp; first | done | (with_reducible rfl))
          try simp only [Act.put, List.setIfInBounds_toArray, List.set_cons_zero, List.set_cons_succ]
          refine H.tk (i := 5) (v := ?v5) ?h5 hS ?_
          case h5 => (intro w hw; go_simp; first | done | (with_reducible rfl))
          try simp only [Act.put, List.setIfInBounds_toArray, List.set_cons_zero, List.set_cons_succ]
          refine H.tk (i := 6) (v := .pointer (some (q.add (k * 25)))) ?h6 hS ?_
          case h6 => exact fun w _ => ex_indexM (x := .tmp 21) (y := .tmp 22) rfl rfl rfl hlt2
          try simp only [Act.put, List.setIfInBounds_toArray, List.set_cons_zero, List.set_cons_succ]
          refine H.tk (i := 7) (v := .agg (M.cells v)) ?h7 hS ?_
          case h7 => exact fun w hw => ex_loadA (x := .tmp 23) rfl rfl hw.2.1
          try simp only [Act.put, List.setIfInBounds_toArray, List.set_cons_zero, List.set_cons_succ]
          refine wpAnyH_ready (rs := [8]) (by kernel_rfl) (by simp) ?_
          refine AllReadyH.cons rfl (fun K hK => ?_) AllReadyH.nil
          go_simp
          refine (P.out _ hS).mono ?_
          rintro e w8 ⟨rfl, hS8⟩
          refine hK.out _ _ hS8 (fun _ => ?_)
          clear hK K hS
          have hS := hS8
          clear hS8
          try simp only [Act.put, List.setIfInBounds_toArray, List.set_cons_zero, List.set_cons_succ]
          refine H.tk (i := 9) (v := (.bool false)) (fun w _ => rfl) hS ?_
          try simp only [Act.put, List.setIfInBounds_toArray, List.set_cons_zero, List.set_cons_succ]
          refine wpAnyH_done (by kernel_rfl) ?_ _
          have HB3 := Lib.hid hS.2.2.2.2.2.2
          clear hS
          go_wp2
          go_roundw
          case rel => exact ⟨k + 1, hlt, by go_num, HS1, HB3⟩
          case measure => simp [intOf]; omega
      · obtain rfl : k = x.length := by omega
        have he : sameL x y = true := sameL_yes HL.out (fun i h1 h2 => HT.out i h1 h1 h2)
        have HE := Lib.hid he
        clear he
        go_wp2
        go_ret
        exact ⟨bool_eq (by rw [HE.out]), HB.out⟩
  · go_enter Tryd.func9, Tryd.ntmps9
    go_wp2
    go_ret
    exact ⟨bool_eq (sameL_len hl).symm, Below.refl _ _⟩
end Go.Proofs.YteecialdkfaejaaDoor.All
