/-
  The program's calls on the writer: what stands ahead of the entries, an entry's bytes, a route behind its next hop. Conditions: bytes of the call's own, at most 65000; texts that aren't too long.
-/
import Derived.Test.YthfdcmijciclkaaSt
namespace Go.Proofs.Ythfdcmijciclkaa.Wr
open Go.ChangeShapes Go.WideShapes Go.ChangeAt Go.RowKit
open Go.Proofs.Ythfdcmijciclkaa.Ms
open Go.Proofs.Ythfdcmijciclkaa.Box
open Go.Proofs.Ythfdcmijciclkaa.Rp
open Go.Proofs.Ythfdcmijciclkaa.Rt
open Go.Proofs.Ythfdcmijciclkaa.Hs
open Go.Proofs.Ythfdcmijciclkaa.Hx
open Go.Proofs.Ythfdcmijciclkaa.St
open Go.Proofs.Ythfdcmijciclkaa.Oct (cellsL)
open Go.Proofs.Ythfdcmijciclkaa.Bk (E Bk Sh shE results_one loadVarK wpList_builtK wpList_loadK wpList_storeK run_loadK)
open Go.Proofs.Ythfdcmijciclkaa.Or (st_yes)
set_option linter.unusedVariables false
set_option maxRecDepth 100000

theorem int_eq {k : IntKind} {a b : Int} (h : a = b) : Ending.returned (.int k a) = .returned (.int k b) := by rw [h]
/-- The call's own writer in block b: the Cmd, the next hop that is said, the bytes; what is new begins at B. -/
def Wri (B b : Nat) (c : Int) (nx : ByteArray) (bs : List UInt8) (w : World) : Prop := B ≤ b ∧ ∃ v, Bk 55 w b #[.int .i64 c, .string nx, v] ∧ Own B w v bs
theorem neW : (55 : TypeId) ≠ 5 := by decide
theorem neM : (34 : TypeId) ≠ 5 := by decide
theorem shW : Sh Try.prog 55 3 := ⟨_, Try.underlying55, by kernel_rfl⟩
theorem Wri.below {B b : Nat} {c : Int} {nx : ByteArray} {l : List UInt8} {w w' : World} (h : Wri B b c nx l w) (hb : Below w.heap.size w w') : Wri B b c nx l w' := by
  obtain ⟨h1, v, h2, h3⟩ := h
  exact ⟨h1, v, h2.below hb, h3.below hb⟩
theorem Wri.lt {B b : Nat} {c : Int} {nx : ByteArray} {l : List UInt8} {w : World} (h : Wri B b c nx l w) : b < w.heap.size := by
  obtain ⟨h1, v, h2, h3⟩ := h
  exact h2.lt
/-- Structs in other blocks stand still. -/
def Oth (b : Nat) (w w' : World) : Prop := ∀ (T : TypeId) k cs, T ≠ 5 → k ≠ b → Bk T w k cs → Bk T w' k cs
theorem Oth.refl (b : Nat) (w : World) : Oth b w w := fun _ _ _ _ _ h => h
theorem Oth.trans {b : Nat} {w w' w'' : World} (h : Oth b w w') (h' : Oth b w' w'') : Oth b w w'' := fun T k cs h1 h2 h3 => h' T k cs h1 h2 (h T k cs h1 h2 h3)
theorem Oth.below {b : Nat} {w w' : World} (h : Below w.heap.size w w') : Oth b w w' := fun _ _ _ _ _ h3 => h3.below h
theorem Oth.set {b i : Nat} {w : World} {v : Value} : Oth b w (w.setCell ⟨b, i, none⟩ v) := fun _ _ _ _ h2 h3 => h3.off (p := ⟨b, i, none⟩) h2 v
theorem Oth.grown {B b : Nat} {w w' : World} {v : Value} {bs : List UInt8} (hown : Own B w v bs) (hg : w.grownBy w' v.ownBlock) : Oth b w w' := fun _ _ _ h1 _ h3 => (hg.block _ h3.lt (fun e => ob_ne hown h3 h1 e.symm)).trans h3
theorem Oth.bx {b g : Nat} {w w' : World} {m : M} (h : Oth b w w') (hn : g ≠ b) (hb : Bx w g m) : Bx w' g m := h 34 g m.cells neM hn hb

set_option maxHeartbeats 1600000 in
theorem line_any (B b : Nat) (c : Int) (nx : ByteArray) (bs : List UInt8) (e : E) (w : World) (h : Wri B b c nx bs w) (hB : B ≤ w.heap.size) (hl : bs.length ≤ 900000) (he : Rte.OkE e) :
    Calls Try.prog 54 #[.pointer (some ⟨b, 0, none⟩), .agg e.cells] w fun r w' => r = .returned (.tuple #[]) ∧ Wri B b c nx (bs ++ putL e) w' ∧ Below B w w' ∧ Oth b w w' := by
  have P1 := Lib.hid (fun W => Rte.put_any e W he)
  have b0 := Bk.Bk.new 45 w e.cells
  have bel := balloc (Below.refl w.heap.size w) (.cells e.cells 45)
  have hr := h.below bel
  have ot : Oth b w _ := Oth.below bel
  replace bel := bel.mono hB
  have HP := Lib.hid (show putL e = (Rte.putE e).data.toList from rfl)
  have HS := Lib.hid (show (Rte.putE e).size ≤ 20 by have := putL_len e; unfold putL at this; simpa using this)
  clear h
  generalize Rte.putE e = s at *
  generalize Rte.okE e = so at *
  go_enter Try.func54, Try.ntmps54
  go_upto_region 1 with fail
  have hsz := Bk.alloc_size w (.cells e.cells 45)
  generalize w.alloc (.cells e.cells 45) = V at *
  have hBV : B ≤ V.heap.size := by omega
  have B0 := Lib.hid b0
  have R0 := Lib.hid hr
  clear b0 hr
  go_wp2_with (first | (refine wpList_loadK (b := w.heap.size) shE rfl _ rfl rfl B0.out rfl ?_))
  refine (P1.out _).mono ?_
  rintro r w1 ⟨rfl, hb⟩
  replace ot := ot.trans (Oth.below hb)
  replace bel := bel.trans (hb.mono hBV)
  have hBw : B ≤ w1.heap.size := by have := hb.size; omega
  have R0 := Lib.hid (R0.out.below hb)
  clear hb B0 P1
  obtain ⟨hBb, v, hb, hown⟩ := R0.out
  have d2 := hb.cell 2 v rfl
  have HB := Lib.hid hb
  have HO := Lib.hid hown
  have HT := Lib.hid ot
  clear hb hown R0 ot
  go_upto_region 2 with fail
  go_wp2_with (at_builtin; refine app_str rfl _ _ rfl B v bs s rfl HO.out rfl ?cL hBw ?_)
  case cL => have := HS.out; omega
  intro v' w2 hown2 hgrow hbel
  have hlt := HB.out.lt
  have hne := ob_ne HO.out HB.out neW
  have hb2 : Bk 55 w2 b #[.int .i64 c, .string nx, v] := (hgrow.block b hlt (fun e => hne e.symm)).trans HB.out
  have HT := Lib.hid (HT.out.trans (Oth.grown HO.out hgrow))
  replace bel := bel.trans hbel
  obtain ⟨va2, vc2, rfl⟩ := own_form hown2
  have d2 := hb2.cell 2 v rfl
  have f2 := hb2.frozen 2
  have HB2 := Lib.hid hb2
  have HO2 := Lib.hid hown2
  clear hb2 hown2 hgrow hbel HB HO hne hlt
  have HP := Lib.hid (show bs ++ putL e = bs ++ s.data.toList by rw [HP.out])
  generalize bs ++ s.data.toList = bs2 at *
  go_wp2_with fail
  go_end0
  exact ⟨rfl, by rw [HP.out]; exact ⟨hBb, _, HB2.out.set rfl, own_set HO2.out HB2.out neW⟩, bel.setCell (p := ⟨b, 2, none⟩) hBb _, HT.out.trans Oth.set⟩

theorem conv_lo {c : Int} (h : c = 1 ∨ c = 2) (W : World) : (convert 3 5 (.int .i64 c)).run Try.prog W = .ok (.int .u8 c) W := by
  rcases h with rfl | rfl <;> rfl
theorem two_cells {c : Int} (h : c = 1 ∨ c = 2) : #[Value.int .u8 c, Value.int .u8 1].toList = cellsL (Rte.layN c 1 ++ [1]) ∧ (Rte.layN c 1 ++ [1]).length = 2 := by
  rcases h with rfl | rfl <;> exact ⟨rfl, rfl⟩
theorem build_two (c : Int) (w : World) : (Instr.buildSlice 38 2 #[(0, .int .u8 c), (1, .int .u8 1)]).run Try.prog w = .ok (.slice (some ⟨w.heap.size, 0, none⟩) 2 2) (w.alloc (.cells #[.int .u8 c, .int .u8 1] 5)) := by
  kernel_rfl
theorem ex_bsB {o : Oper} {ρ : Operand → Value} {x : Operand} {c : Int} {w : World} (ho : o.op = .buildSlice 38 2 #[(0, x), (1, .const (.int .u8 1))]) (hx : ρ x = .int .u8 c) (h1 : ρ (.const (.int .u8 1)) = .int .u8 1) :
    (execOp ρ o).run Try.prog w = .ok (.value (.slice (some ⟨w.heap.size, 0, none⟩) 2 2)) (w.alloc (.cells #[.int .u8 c, .int .u8 1] 5)) := by
  have e : ((#[(0, x), (1, .const (.int .u8 1))] : Array (Nat × Operand)).map fun (i, x) => (i, ρ x)) = #[(0, .int .u8 c), (1, .int .u8 1)] := by simp [hx, h1]
  unfold execOp
  simp only [ho, Sem.run_bind, e, build_two, Result.andThen_ok, Sem.run_pure]
theorem wp_bsB {o : Oper} {a : Act} {w : World} {K : Act → World → Prop} {Q : Exit → Act → World → Prop} {d : Nat} (hd : o.dst = some d) (x : Operand) (hop : o.op = .buildSlice 38 2 #[(0, x), (1, .const (.int .u8 1))]) {c : Int} (hx : a.eval x = .int .u8 c)
    (h : K (a.put (some d) (.slice (some ⟨w.heap.size, 0, none⟩) 2 2)) (w.alloc (.cells #[.int .u8 c, .int .u8 1] 5))) : Oper.wp Try.prog o a w K Q := by
  unfold Oper.wp
  rw [ex_bsB hop hx rfl]
  simp only [Oper.upon, hd]
  exact h
section
variable {ops : Array Oper} {Q : Exit → Act → World → Prop} {md : Region.Mode} {S : World → Prop}
theorem H.bsB {i d : Nat} {o : Oper} {fuel : Nat} {listed : Array Bool} {a : Act} {w : World}
    (ho : ops[i]? = some o) (hw : Region.wanted o (yielded ops a.tmps) = true) (hr : Region.ready md ops listed = [i]) (hd : o.dst = some d)
    (x : Operand) (hop : o.op = .buildSlice 38 2 #[(0, x), (1, .const (.int .u8 1))]) {c : Int} (hx : a.eval x = .int .u8 c) (hS : S (w.alloc (.cells #[.int .u8 c, .int .u8 1] 5)))
    (h : wpAnyH Try.prog md ops Q S fuel (listed.setIfInBounds i true) (a.put (some d) (.slice (some ⟨w.heap.size, 0, none⟩) 2 2)) (w.alloc (.cells #[.int .u8 c, .int .u8 1] 5))) : wpAnyH Try.prog md ops Q S (fuel + 1) listed a w := by
  refine H.one ho hw hr (fun K hK => ?_)
  refine wp_bsB hd x hop hx ?_
  exact hK.out _ _ hS h
end

/-- What the loads read, but the bytes. -/
structure Sc (b : Nat) (c : Int) (W : World) : Prop where
  c0 : W.cell? ⟨b, 0, none⟩ = some (.int .i64 c)
theorem Sc.of {b : Nat} {c : Int} {nx : ByteArray} {v : Value} {W : World} (h : Bk 55 W b #[.int .i64 c, .string nx, v]) : Sc b c W := ⟨h.cell 0 _ rfl⟩
set_option maxHeartbeats 6400000 in
theorem head_any (B b : Nat) (c : Int) (nx : ByteArray) (bs : List UInt8) (w : World) (h : Wri B b c nx bs w) (hB : B ≤ w.heap.size) (hl : bs.length ≤ 900000) (hc : c = 1 ∨ c = 2) :
    Calls Try.prog 35 #[.pointer (some ⟨b, 0, none⟩)] w fun r w' => r = .returned (.tuple #[]) ∧ Wri B b c nx (bs ++ hdL c) w' ∧ Below B w w' := by
  have PZ := Lib.hid (fun W => Oct.zeros_mid 2 W (by omega))
  have cv := Lib.hid (fun W => conv_lo hc W)
  have HN : Hid (#[Value.int .u8 c, Value.int .u8 1].toList = cellsL (Rte.layN c 1 ++ [1]) ∧ (Rte.layN c 1 ++ [1]).length = 2) := Lib.hid (two_cells hc)
  have HH := Lib.hid (show bs ++ hdL c = (bs ++ (Rte.layN c 1 ++ [1])) ++ [0, 0] by unfold hdL; simp)
  have hz2 : (ByteArray.mk (List.replicate 2 (0 : UInt8)).toArray).data.toList = [0, 0] ∧ (ByteArray.mk (List.replicate 2 (0 : UInt8)).toArray).size = 2 := ⟨rfl, rfl⟩
  have HZ2 := Lib.hid hz2
  have HLn := Lib.hid hl
  clear hc hz2 hl
  generalize ByteArray.mk (List.replicate 2 (0 : UInt8)).toArray = t2 at *
  generalize Rte.layN c 1 ++ [1] = nw at *
  obtain ⟨hBb, v, hb, hown⟩ := h
  obtain ⟨va, vc, rfl⟩ := own_form hown
  have HR := Lib.hid hb.drew
  have HO : Hid (Own B w.drew (.slice va bs.length vc) bs) := Lib.hid hown
  have bel : Below B w w.drew := (Below.refl B w).drew
  have hBw : B ≤ w.drew.heap.size := hB
  clear hb hown hB
  go_enter Try.func35, Try.ntmps35
  go_upto_region 0 with fail
  refine wp_region_held_drew (S := Sc b c) (by kernel_rfl) (Sc.of HR.out) (fun hS => ?_)
  generalize w.drew = w0 at *
  refine H.take (i := 0) (v := ?v0) (by simp only [List.getElem?_toArray, List.getElem?_cons_zero]; rfl) (by kernel_rfl) rfl (by kernel_rfl) (by kernel_rfl) (by kernel_rfl) (fun _ _ _ h => h) ?h0 hS ?_
  case h0 => (intro w hw; go_simp; first | done | (with_reducible rfl))
  try simp only [Act.put, List.setIfInBounds_toArray, List.set_cons_zero, List.set_cons_succ]
  refine H.take (i := 1) (v := ?v1) (by simp only [List.getElem?_toArray, List.getElem?_cons_succ, List.getElem?_cons_zero]; rfl) (by kernel_rfl) rfl (by kernel_rfl) (by kernel_rfl) (by kernel_rfl) (fun _ _ _ h => h) ?h1 hS ?_
  case h1 => (intro w hw; go_simp; first | done | (with_reducible rfl))
  try simp only [Act.put, List.setIfInBounds_toArray, List.set_cons_zero, List.set_cons_succ]
  refine H.take (i := 2) (v := ?v2) (by simp only [List.getElem?_toArray, List.getElem?_cons_succ, List.getElem?_cons_zero]; rfl) (by kernel_rfl) rfl (by kernel_rfl) (by kernel_rfl) (by kernel_rfl) (fun _ _ _ h => h) ?h2 hS ?_
  case h2 => (intro w hw; go_simp; first | done | (with_reducible rfl))
  try simp only [Act.put, List.setIfInBounds_toArray, List.set_cons_zero, List.set_cons_succ]
  refine H.take (i := 3) (v := ?v3) (by simp only [List.getElem?_toArray, List.getElem?_cons_succ, List.getElem?_cons_zero]; rfl) (by kernel_rfl) rfl (by kernel_rfl) (by kernel_rfl) (by kernel_rfl) (fun _ _ _ h => h) ?h3 hS ?_
  case h3 => (intro w hw; go_simp; first | done | (with_reducible rfl))
  try simp only [Act.put, List.setIfInBounds_toArray, List.set_cons_zero, List.set_cons_succ]
  refine H.take (i := 5) (v := ?v5) (by simp only [List.getElem?_toArray, List.getElem?_cons_succ, List.getElem?_cons_zero]; rfl) (by kernel_rfl) rfl (by kernel_rfl) (by kernel_rfl) (by kernel_rfl) (fun _ _ _ h => h) ?h5 hS ?_
  case h5 => (intro w hw; go_simp; first | done | (with_reducible rfl))
  try simp only [Act.put, List.setIfInBounds_toArray, List.set_cons_zero, List.set_cons_succ]
  refine H.take (i := 6) (v := ?v6) (by simp only [List.getElem?_toArray, List.getElem?_cons_succ, List.getElem?_cons_zero]; rfl) (by kernel_rfl) rfl (by kernel_rfl) (by kernel_rfl) (by kernel_rfl) (fun _ _ _ h => h) ?h6 hS ?_
  case h6 => (intro w hw; go_simp; first | done | (with_reducible rfl))
  try simp only [Act.put, List.setIfInBounds_toArray, List.set_cons_zero, List.set_cons_succ]
  refine H.take (i := 7) (v := ?v7) (by simp only [List.getElem?_toArray, List.getElem?_cons_succ, List.getElem?_cons_zero]; rfl) (by kernel_rfl) rfl (by kernel_rfl) (by kernel_rfl) (by kernel_rfl) (fun _ _ _ h => h) ?h7 hS ?_
  case h7 => (intro w hw; go_simp; first | done | (with_reducible rfl))
  try simp only [Act.put, List.setIfInBounds_toArray, List.set_cons_zero, List.set_cons_succ]
  refine H.take (i := 8) (v := ?v8) (by simp only [List.getElem?_toArray, List.getElem?_cons_succ, List.getElem?_cons_zero]; rfl) (by kernel_rfl) rfl (by kernel_rfl) (by kernel_rfl) (by kernel_rfl) (fun _ _ _ h => h) ?h8 hS ?_
  case h8 => (intro w hw; have c := hw.c0; go_simp; first | done | (with_reducible rfl))
  try simp only [Act.put, List.setIfInBounds_toArray, List.set_cons_zero, List.set_cons_succ]
  refine H.take (i := 9) (v := .int .u8 c) (by simp only [List.getElem?_toArray, List.getElem?_cons_succ, List.getElem?_cons_zero]; rfl) (by kernel_rfl) rfl (by kernel_rfl) (by kernel_rfl) (by kernel_rfl) (fun _ _ _ h => h) ?h9 hS ?_
  case h9 => exact (fun w hw => by have cv := cv.out w; go_simp)
  try simp only [Act.put, List.setIfInBounds_toArray, List.set_cons_zero, List.set_cons_succ]
  have HR1 := Lib.hid (HR.out.old (.cells #[.int .u8 c, .int .u8 1] 5))
  have HO1 := Lib.hid (HO.out.below (balloc (Below.refl _ w0) (.cells #[.int .u8 c, .int .u8 1] 5)))
  have HC1 : Hid (∀ j u, (cellsL nw)[j]? = some u → (w0.alloc (.cells #[.int .u8 c, .int .u8 1] 5)).cell? ((⟨w0.heap.size, 0, none⟩ : Addr).add j) = some u) := Lib.hid (by rw [← HN.out.1]; exact new_cells _ _ w0)
  replace bel := bel.alloc hBw (.cells #[.int .u8 c, .int .u8 1] 5)
  replace hBw : B ≤ (w0.alloc (.cells #[.int .u8 c, .int .u8 1] 5)).heap.size := by rw [Bk.alloc_size]; omega
  refine H.two (i := 4) (j := 10) (by simp only [List.getElem?_toArray, List.getElem?_cons_succ, List.getElem?_cons_zero]; rfl) (by kernel_rfl) (by simp only [List.getElem?_toArray, List.getElem?_cons_succ, List.getElem?_cons_zero]; rfl) (by kernel_rfl) (by kernel_rfl) (fun K hK => ?wa) (fun K hK => ?wb)
  case' wa =>
    refine wp_val rfl (v := .slice va bs.length vc) (by have c := HR.out.cell 2 _ rfl; go_simp) ?_
    refine hK.out _ _ hS ?_
    clear hK K
    try simp only [Act.put, List.setIfInBounds_toArray, List.set_cons_zero, List.set_cons_succ]
    refine H.bsB (i := 10) (by simp only [List.getElem?_toArray, List.getElem?_cons_succ, List.getElem?_cons_zero]; rfl) (by kernel_rfl) (by kernel_rfl) rfl _ rfl (c := c) rfl (Sc.of HR1.out) ?_
    try simp only [Act.put, List.setIfInBounds_toArray, List.set_cons_zero, List.set_cons_succ]
  case' wb =>
    refine wp_bsB rfl _ rfl (c := c) rfl ?_
    refine hK.out _ _ (Sc.of HR1.out) ?_
    clear hK K
    try simp only [Act.put, List.setIfInBounds_toArray, List.set_cons_zero, List.set_cons_succ]
    refine H.one (i := 4) (by simp only [List.getElem?_toArray, List.getElem?_cons_succ, List.getElem?_cons_zero]; rfl) (by kernel_rfl) (by kernel_rfl) (fun K hK => ?_)
    refine wp_val rfl (v := .slice va bs.length vc) (by have c := HR1.out.cell 2 _ rfl; go_simp) ?_
    refine hK.out _ _ (Sc.of HR1.out) ?_
    clear hK K
    try simp only [Act.put, List.setIfInBounds_toArray, List.set_cons_zero, List.set_cons_succ]
  · clear hS HR HO
    generalize w0.alloc (.cells #[.int .u8 c, .int .u8 1] 5) = W1 at *
    generalize w0.heap.size = g1 at *
    have hne1 := Lib.hid (ob_ne HO1.out HR1.out neW)
    have hlt1 := HR1.out.lt
    refine H.appB (i := 11) (by simp only [List.getElem?_toArray, List.getElem?_cons_succ, List.getElem?_cons_zero]; rfl) (by kernel_rfl) (by kernel_rfl) rfl _ _ rfl B (.slice va bs.length vc) bs nw g1 2 rfl HO1.out (by rw [HN.out.2]; rfl) HC1.out (by have := HN.out.2; have := HLn.out; omega) hBw (fun w' hg => Sc.of ((hg.block b hlt1 (fun e => hne1.out e.symm)).trans HR1.out)) ?_
    intro v2 W2 hown2 hgrow hb2
    try simp only [Act.put, List.setIfInBounds_toArray, List.set_cons_zero, List.set_cons_succ]
    replace bel := bel.trans hb2
    have HR2 : Hid (Bk 55 W2 b #[.int .i64 c, .string nx, .slice va bs.length vc]) := Lib.hid ((hgrow.block b hlt1 (fun e => hne1.out e.symm)).trans HR1.out)
    obtain ⟨va2, vc2, rfl⟩ := own_form hown2
    have HO2 := Lib.hid hown2
    have hBw2 : B ≤ W2.heap.size := by have := hb2.size; omega
    clear hown2 hgrow hb2 HR1 HO1 HC1 hne1 hlt1
    have HL2 := Lib.hid (show (bs ++ nw).length ≤ 900002 by rw [List.length_append, HN.out.2]; have := HLn.out; omega)
    clear HN
    generalize bs ++ nw = bs2 at *
    have hS2 := Sc.of HR2.out
    refine H.take (i := 12) (v := ?v12_1) (by simp only [List.getElem?_toArray, List.getElem?_cons_succ, List.getElem?_cons_zero]; rfl) (by kernel_rfl) rfl (by kernel_rfl) (by kernel_rfl) (by kernel_rfl) (fun _ _ _ h => h) ?h12_1 hS2 ?_
    case h12_1 => (intro w hw; go_simp; first | done | (with_reducible rfl))
    try simp only [Act.put, List.setIfInBounds_toArray, List.set_cons_zero, List.set_cons_succ]
    refine H.take (i := 13) (v := ?v13_1) (by simp only [List.getElem?_toArray, List.getElem?_cons_succ, List.getElem?_cons_zero]; rfl) (by kernel_rfl) rfl (by kernel_rfl) (by kernel_rfl) (by kernel_rfl) (fun _ _ _ h => h) ?h13_1 hS2 ?_
    case h13_1 => (intro w hw; go_simp; first | done | (with_reducible rfl))
    try simp only [Act.put, List.setIfInBounds_toArray, List.set_cons_zero, List.set_cons_succ]
    have cx := HR2.out.cell 2 _ rfl
    have fx := HR2.out.frozen 2
    have HR3 := Lib.hid (HR2.out.set (i := 2) (v := .slice va2 bs2.length vc2) (cs' := #[.int .i64 c, .string nx, .slice va2 bs2.length vc2]) rfl)
    have HO3 : Hid (Own B (W2.setCell ⟨b, 2, none⟩ (.slice va2 bs2.length vc2)) (.slice va2 bs2.length vc2) bs2) := Lib.hid (own_set HO2.out HR2.out neW)
    replace bel := bel.setCell (p := ⟨b, 2, none⟩) hBb (.slice va2 bs2.length vc2)
    replace hBw2 : B ≤ (W2.setCell ⟨b, 2, none⟩ (.slice va2 bs2.length vc2)).heap.size := by simpa using hBw2
    refine H.one (i := 14) (by simp only [List.getElem?_toArray, List.getElem?_cons_succ, List.getElem?_cons_zero]; rfl) (by kernel_rfl) (by kernel_rfl) (fun K hK => ?_)
    go_simp
    refine hK.out _ _ (Sc.of HR3.out) ?_
    clear hK K
    try simp only [Act.put, List.setIfInBounds_toArray, List.set_cons_zero, List.set_cons_succ]
    refine wpAnyH_done (by kernel_rfl) ?_ _
    clear HR2 HO2 cx fx hS2
    generalize World.setCell _ _ _ = W3 at *
    replace HR3 := Lib.hid HR3.out.drew
    replace HO3 : Hid (Own B W3.drew (.slice va2 bs2.length vc2) bs2) := Lib.hid HO3.out
    replace bel := bel.drew
    replace hBw2 : B ≤ W3.drew.heap.size := hBw2
    go_upto_region 1 with fail
    refine wp_region_held_drew (S := Sc b c) (by kernel_rfl) (Sc.of HR3.out) (fun hS => ?_)
    generalize W3.drew = w4 at *
    refine H.take (i := 0) (v := ?v0_1) (by simp only [List.getElem?_toArray, List.getElem?_cons_zero]; rfl) (by kernel_rfl) rfl (by kernel_rfl) (by kernel_rfl) (by kernel_rfl) (fun _ _ _ h => h) ?h0_1 hS ?_
    case h0_1 => (intro w hw; go_simp; first | done | (with_reducible rfl))
    try simp only [Act.put, List.setIfInBounds_toArray, List.set_cons_zero, List.set_cons_succ]
    refine H.take (i := 1) (v := ?v1_1) (by simp only [List.getElem?_toArray, List.getElem?_cons_succ, List.getElem?_cons_zero]; rfl) (by kernel_rfl) rfl (by kernel_rfl) (by kernel_rfl) (by kernel_rfl) (fun _ _ _ h => h) ?h1_1 hS ?_
    case h1_1 => (intro w hw; go_simp; first | done | (with_reducible rfl))
    try simp only [Act.put, List.setIfInBounds_toArray, List.set_cons_zero, List.set_cons_succ]
    refine H.take (i := 2) (v := ?v2_1) (by simp only [List.getElem?_toArray, List.getElem?_cons_succ, List.getElem?_cons_zero]; rfl) (by kernel_rfl) rfl (by kernel_rfl) (by kernel_rfl) (by kernel_rfl) (fun _ _ _ h => h) ?h2_1 hS ?_
    case h2_1 => (intro w hw; go_simp; first | done | (with_reducible rfl))
    try simp only [Act.put, List.setIfInBounds_toArray, List.set_cons_zero, List.set_cons_succ]
    refine H.take (i := 3) (v := ?v3_1) (by simp only [List.getElem?_toArray, List.getElem?_cons_succ, List.getElem?_cons_zero]; rfl) (by kernel_rfl) rfl (by kernel_rfl) (by kernel_rfl) (by kernel_rfl) (fun _ _ _ h => h) ?h3_1 hS ?_
    case h3_1 => (intro w hw; go_simp; first | done | (with_reducible rfl))
    try simp only [Act.put, List.setIfInBounds_toArray, List.set_cons_zero, List.set_cons_succ]
    refine H.two (i := 4) (j := 5) (by simp only [List.getElem?_toArray, List.getElem?_cons_succ, List.getElem?_cons_zero]; rfl) (by kernel_rfl) (by simp only [List.getElem?_toArray, List.getElem?_cons_succ, List.getElem?_cons_zero]; rfl) (by kernel_rfl) (by kernel_rfl) (fun K hK => ?wc_1) (fun K hK => ?wd_1)
    case' wc_1 =>
      refine wp_val rfl (v := .slice va2 bs2.length vc2) (by have c := HR3.out.cell 2 _ rfl; go_simp) ?_
      refine hK.out _ _ hS ?_
      clear hK K
      try simp only [Act.put, List.setIfInBounds_toArray, List.set_cons_zero, List.set_cons_succ]
      refine H.one (i := 5) (by simp only [List.getElem?_toArray, List.getElem?_cons_succ, List.getElem?_cons_zero]; rfl) (by kernel_rfl) (by kernel_rfl) (fun K hK => ?_)
      go_simp
      refine (PZ.out _).mono ?_
      rintro r W4 ⟨rfl, hb4⟩
      refine hK.out _ _ (Sc.of (HR3.out.below hb4)) ?_
      clear hK K
      try simp only [Act.put, List.setIfInBounds_toArray, List.set_cons_zero, List.set_cons_succ]
    case' wd_1 =>
      go_simp
      refine (PZ.out _).mono ?_
      rintro r W4 ⟨rfl, hb4⟩
      refine hK.out _ _ (Sc.of (HR3.out.below hb4)) ?_
      clear hK K
      try simp only [Act.put, List.setIfInBounds_toArray, List.set_cons_zero, List.set_cons_succ]
      refine H.one (i := 4) (by simp only [List.getElem?_toArray, List.getElem?_cons_succ, List.getElem?_cons_zero]; rfl) (by kernel_rfl) (by kernel_rfl) (fun K hK => ?_)
      refine wp_val rfl (v := .slice va2 bs2.length vc2) (by have c := (HR3.out.below hb4).cell 2 _ rfl; go_simp) ?_
      refine hK.out _ _ (Sc.of (HR3.out.below hb4)) ?_
      clear hK K
      try simp only [Act.put, List.setIfInBounds_toArray, List.set_cons_zero, List.set_cons_succ]
    all_goals
      have HR4 := Lib.hid (HR3.out.below hb4)
      have HO4 := Lib.hid (HO3.out.below hb4)
      replace bel := bel.trans (hb4.mono hBw2)
      have hBw4 : B ≤ W4.heap.size := by have := hb4.size; omega
      clear hS HR3 HO3 hb4
      have hne1 := Lib.hid (ob_ne HO4.out HR4.out neW)
      have hlt1 := HR4.out.lt
      refine H.appS (i := 6) (by simp only [List.getElem?_toArray, List.getElem?_cons_succ, List.getElem?_cons_zero]; rfl) (by kernel_rfl) (by kernel_rfl) rfl _ _ rfl B (.slice va2 bs2.length vc2) bs2 t2 rfl HO4.out rfl (by have := HZ2.out.2; have := HL2.out; omega) hBw4 (fun w' hg => Sc.of ((hg.block b hlt1 (fun e => hne1.out e.symm)).trans HR4.out)) ?_
      intro v5 W5 hown5 hgrow hb5
      try simp only [Act.put, List.setIfInBounds_toArray, List.set_cons_zero, List.set_cons_succ]
      replace bel := bel.trans hb5
      have HR5 : Hid (Bk 55 W5 b #[.int .i64 c, .string nx, .slice va2 bs2.length vc2]) := Lib.hid ((hgrow.block b hlt1 (fun e => hne1.out e.symm)).trans HR4.out)
      rw [HZ2.out.1, ← HH.out] at hown5
      obtain ⟨va5, vc5, rfl⟩ := own_form hown5
      have HO5 := Lib.hid hown5
      clear hown5 hgrow hb5 HR4 HO4 hne1 hlt1 HH HZ2 HL2
      generalize hx5 : bs ++ hdL c = bs5 at *
      have HX5 := Lib.hid hx5
      clear hx5
      have hS5 := Sc.of HR5.out
      refine H.take (i := 7) (v := ?u7_1) (by simp only [List.getElem?_toArray, List.getElem?_cons_succ, List.getElem?_cons_zero]; rfl) (by kernel_rfl) rfl (by kernel_rfl) (by kernel_rfl) (by kernel_rfl) (fun _ _ _ h => h) ?g7_1 hS5 ?_
      case g7_1 => (intro w hw; go_simp; first | done | (with_reducible rfl))
      try simp only [Act.put, List.setIfInBounds_toArray, List.set_cons_zero, List.set_cons_succ]
      refine H.take (i := 8) (v := ?u8_1) (by simp only [List.getElem?_toArray, List.getElem?_cons_succ, List.getElem?_cons_zero]; rfl) (by kernel_rfl) rfl (by kernel_rfl) (by kernel_rfl) (by kernel_rfl) (fun _ _ _ h => h) ?g8_1 hS5 ?_
      case g8_1 => (intro w hw; go_simp; first | done | (with_reducible rfl))
      try simp only [Act.put, List.setIfInBounds_toArray, List.set_cons_zero, List.set_cons_succ]
      have cx := HR5.out.cell 2 _ rfl
      have fx := HR5.out.frozen 2
      have HR6 := Lib.hid (HR5.out.set (i := 2) (v := .slice va5 bs5.length vc5) (cs' := #[.int .i64 c, .string nx, .slice va5 bs5.length vc5]) rfl)
      have HO6 : Hid (Own B (W5.setCell ⟨b, 2, none⟩ (.slice va5 bs5.length vc5)) (.slice va5 bs5.length vc5) bs5) := Lib.hid (own_set HO5.out HR5.out neW)
      replace bel := bel.setCell (p := ⟨b, 2, none⟩) hBb (.slice va5 bs5.length vc5)
      refine H.one (i := 9) (by simp only [List.getElem?_toArray, List.getElem?_cons_succ, List.getElem?_cons_zero]; rfl) (by kernel_rfl) (by kernel_rfl) (fun K hK => ?_)
      go_simp
      refine hK.out _ _ (Sc.of HR6.out) ?_
      clear hK K
      try simp only [Act.put, List.setIfInBounds_toArray, List.set_cons_zero, List.set_cons_succ]
      refine wpAnyH_done (by kernel_rfl) ?_ _
      clear HR5 HO5 cx fx hS5
      generalize World.setCell _ _ _ = W6 at *
      go_wp2
      go_end0
      exact ⟨rfl, by rw [HX5.out]; exact ⟨hBb, _, HR6.out, HO6.out⟩, bel⟩
  · clear hS HR HO
    generalize w0.alloc (.cells #[.int .u8 c, .int .u8 1] 5) = W1 at *
    generalize w0.heap.size = g1 at *
    have hne1 := Lib.hid (ob_ne HO1.out HR1.out neW)
    have hlt1 := HR1.out.lt
    refine H.appB (i := 11) (by simp only [List.getElem?_toArray, List.getElem?_cons_succ, List.getElem?_cons_zero]; rfl) (by kernel_rfl) (by kernel_rfl) rfl _ _ rfl B (.slice va bs.length vc) bs nw g1 2 rfl HO1.out (by rw [HN.out.2]; rfl) HC1.out (by have := HN.out.2; have := HLn.out; omega) hBw (fun w' hg => Sc.of ((hg.block b hlt1 (fun e => hne1.out e.symm)).trans HR1.out)) ?_
    intro v2 W2 hown2 hgrow hb2
    try simp only [Act.put, List.setIfInBounds_toArray, List.set_cons_zero, List.set_cons_succ]
    replace bel := bel.trans hb2
    have HR2 : Hid (Bk 55 W2 b #[.int .i64 c, .string nx, .slice va bs.length vc]) := Lib.hid ((hgrow.block b hlt1 (fun e => hne1.out e.symm)).trans HR1.out)
    obtain ⟨va2, vc2, rfl⟩ := own_form hown2
    have HO2 := Lib.hid hown2
    have hBw2 : B ≤ W2.heap.size := by have := hb2.size; omega
    clear hown2 hgrow hb2 HR1 HO1 HC1 hne1 hlt1
    have HL2 := Lib.hid (show (bs ++ nw).length ≤ 900002 by rw [List.length_append, HN.out.2]; have := HLn.out; omega)
    clear HN
    generalize bs ++ nw = bs2 at *
    have hS2 := Sc.of HR2.out
    refine H.take (i := 12) (v := ?v12_2) (by simp only [List.getElem?_toArray, List.getElem?_cons_succ, List.getElem?_cons_zero]; rfl) (by kernel_rfl) rfl (by kernel_rfl) (by kernel_rfl) (by kernel_rfl) (fun _ _ _ h => h) ?h12_2 hS2 ?_
    case h12_2 => (intro w hw; go_simp; first | done | (with_reducible rfl))
    try simp only [Act.put, List.setIfInBounds_toArray, List.set_cons_zero, List.set_cons_succ]
    refine H.take (i := 13) (v := ?v13_2) (by simp only [List.getElem?_toArray, List.getElem?_cons_succ, List.getElem?_cons_zero]; rfl) (by kernel_rfl) rfl (by kernel_rfl) (by kernel_rfl) (by kernel_rfl) (fun _ _ _ h => h) ?h13_2 hS2 ?_
    case h13_2 => (intro w hw; go_simp; first | done | (with_reducible rfl))
    try simp only [Act.put, List.setIfInBounds_toArray, List.set_cons_zero, List.set_cons_succ]
    have cx := HR2.out.cell 2 _ rfl
    have fx := HR2.out.frozen 2
    have HR3 := Lib.hid (HR2.out.set (i := 2) (v := .slice va2 bs2.length vc2) (cs' := #[.int .i64 c, .string nx, .slice va2 bs2.length vc2]) rfl)
    have HO3 : Hid (Own B (W2.setCell ⟨b, 2, none⟩ (.slice va2 bs2.length vc2)) (.slice va2 bs2.length vc2) bs2) := Lib.hid (own_set HO2.out HR2.out neW)
    replace bel := bel.setCell (p := ⟨b, 2, none⟩) hBb (.slice va2 bs2.length vc2)
    replace hBw2 : B ≤ (W2.setCell ⟨b, 2, none⟩ (.slice va2 bs2.length vc2)).heap.size := by simpa using hBw2
    refine H.one (i := 14) (by simp only [List.getElem?_toArray, List.getElem?_cons_succ, List.getElem?_cons_zero]; rfl) (by kernel_rfl) (by kernel_rfl) (fun K hK => ?_)
    go_simp
    refine hK.out _ _ (Sc.of HR3.out) ?_
    clear hK K
    try simp only [Act.put, List.setIfInBounds_toArray, List.set_cons_zero, List.set_cons_succ]
    refine wpAnyH_done (by kernel_rfl) ?_ _
    clear HR2 HO2 cx fx hS2
    generalize World.setCell _ _ _ = W3 at *
    replace HR3 := Lib.hid HR3.out.drew
    replace HO3 : Hid (Own B W3.drew (.slice va2 bs2.length vc2) bs2) := Lib.hid HO3.out
    replace bel := bel.drew
    replace hBw2 : B ≤ W3.drew.heap.size := hBw2
    go_upto_region 1 with fail
    refine wp_region_held_drew (S := Sc b c) (by kernel_rfl) (Sc.of HR3.out) (fun hS => ?_)
    generalize W3.drew = w4 at *
    refine H.take (i := 0) (v := ?v0_2) (by simp only [List.getElem?_toArray, List.getElem?_cons_zero]; rfl) (by kernel_rfl) rfl (by kernel_rfl) (by kernel_rfl) (by kernel_rfl) (fun _ _ _ h => h) ?h0_2 hS ?_
    case h0_2 => (intro w hw; go_simp; first | done | (with_reducible rfl))
    try simp only [Act.put, List.setIfInBounds_toArray, List.set_cons_zero, List.set_cons_succ]
    refine H.take (i := 1) (v := ?v1_2) (by simp only [List.getElem?_toArray, List.getElem?_cons_succ, List.getElem?_cons_zero]; rfl) (by kernel_rfl) rfl (by kernel_rfl) (by kernel_rfl) (by kernel_rfl) (fun _ _ _ h => h) ?h1_2 hS ?_
    case h1_2 => (intro w hw; go_simp; first | done | (with_reducible rfl))
    try simp only [Act.put, List.setIfInBounds_toArray, List.set_cons_zero, List.set_cons_succ]
    refine H.take (i := 2) (v := ?v2_2) (by simp only [List.getElem?_toArray, List.getElem?_cons_succ, List.getElem?_cons_zero]; rfl) (by kernel_rfl) rfl (by kernel_rfl) (by kernel_rfl) (by kernel_rfl) (fun _ _ _ h => h) ?h2_2 hS ?_
    case h2_2 => (intro w hw; go_simp; first | done | (with_reducible rfl))
    try simp only [Act.put, List.setIfInBounds_toArray, List.set_cons_zero, List.set_cons_succ]
    refine H.take (i := 3) (v := ?v3_2) (by simp only [List.getElem?_toArray, List.getElem?_cons_succ, List.getElem?_cons_zero]; rfl) (by kernel_rfl) rfl (by kernel_rfl) (by kernel_rfl) (by kernel_rfl) (fun _ _ _ h => h) ?h3_2 hS ?_
    case h3_2 => (intro w hw; go_simp; first | done | (with_reducible rfl))
    try simp only [Act.put, List.setIfInBounds_toArray, List.set_cons_zero, List.set_cons_succ]
    refine H.two (i := 4) (j := 5) (by simp only [List.getElem?_toArray, List.getElem?_cons_succ, List.getElem?_cons_zero]; rfl) (by kernel_rfl) (by simp only [List.getElem?_toArray, List.getElem?_cons_succ, List.getElem?_cons_zero]; rfl) (by kernel_rfl) (by kernel_rfl) (fun K hK => ?wc_2) (fun K hK => ?wd_2)
    case' wc_2 =>
      refine wp_val rfl (v := .slice va2 bs2.length vc2) (by have c := HR3.out.cell 2 _ rfl; go_simp) ?_
      refine hK.out _ _ hS ?_
      clear hK K
      try simp only [Act.put, List.setIfInBounds_toArray, List.set_cons_zero, List.set_cons_succ]
      refine H.one (i := 5) (by simp only [List.getElem?_toArray, List.getElem?_cons_succ, List.getElem?_cons_zero]; rfl) (by kernel_rfl) (by kernel_rfl) (fun K hK => ?_)
      go_simp
      refine (PZ.out _).mono ?_
      rintro r W4 ⟨rfl, hb4⟩
      refine hK.out _ _ (Sc.of (HR3.out.below hb4)) ?_
      clear hK K
      try simp only [Act.put, List.setIfInBounds_toArray, List.set_cons_zero, List.set_cons_succ]
    case' wd_2 =>
      go_simp
      refine (PZ.out _).mono ?_
      rintro r W4 ⟨rfl, hb4⟩
      refine hK.out _ _ (Sc.of (HR3.out.below hb4)) ?_
      clear hK K
      try simp only [Act.put, List.setIfInBounds_toArray, List.set_cons_zero, List.set_cons_succ]
      refine H.one (i := 4) (by simp only [List.getElem?_toArray, List.getElem?_cons_succ, List.getElem?_cons_zero]; rfl) (by kernel_rfl) (by kernel_rfl) (fun K hK => ?_)
      refine wp_val rfl (v := .slice va2 bs2.length vc2) (by have c := (HR3.out.below hb4).cell 2 _ rfl; go_simp) ?_
      refine hK.out _ _ (Sc.of (HR3.out.below hb4)) ?_
      clear hK K
      try simp only [Act.put, List.setIfInBounds_toArray, List.set_cons_zero, List.set_cons_succ]
    all_goals
      have HR4 := Lib.hid (HR3.out.below hb4)
      have HO4 := Lib.hid (HO3.out.below hb4)
      replace bel := bel.trans (hb4.mono hBw2)
      have hBw4 : B ≤ W4.heap.size := by have := hb4.size; omega
      clear hS HR3 HO3 hb4
      have hne1 := Lib.hid (ob_ne HO4.out HR4.out neW)
      have hlt1 := HR4.out.lt
      refine H.appS (i := 6) (by simp only [List.getElem?_toArray, List.getElem?_cons_succ, List.getElem?_cons_zero]; rfl) (by kernel_rfl) (by kernel_rfl) rfl _ _ rfl B (.slice va2 bs2.length vc2) bs2 t2 rfl HO4.out rfl (by have := HZ2.out.2; have := HL2.out; omega) hBw4 (fun w' hg => Sc.of ((hg.block b hlt1 (fun e => hne1.out e.symm)).trans HR4.out)) ?_
      intro v5 W5 hown5 hgrow hb5
      try simp only [Act.put, List.setIfInBounds_toArray, List.set_cons_zero, List.set_cons_succ]
      replace bel := bel.trans hb5
      have HR5 : Hid (Bk 55 W5 b #[.int .i64 c, .string nx, .slice va2 bs2.length vc2]) := Lib.hid ((hgrow.block b hlt1 (fun e => hne1.out e.symm)).trans HR4.out)
      rw [HZ2.out.1, ← HH.out] at hown5
      obtain ⟨va5, vc5, rfl⟩ := own_form hown5
      have HO5 := Lib.hid hown5
      clear hown5 hgrow hb5 HR4 HO4 hne1 hlt1 HH HZ2 HL2
      generalize hx5 : bs ++ hdL c = bs5 at *
      have HX5 := Lib.hid hx5
      clear hx5
      have hS5 := Sc.of HR5.out
      refine H.take (i := 7) (v := ?u7_2) (by simp only [List.getElem?_toArray, List.getElem?_cons_succ, List.getElem?_cons_zero]; rfl) (by kernel_rfl) rfl (by kernel_rfl) (by kernel_rfl) (by kernel_rfl) (fun _ _ _ h => h) ?g7_2 hS5 ?_
      case g7_2 => (intro w hw; go_simp; first | done | (with_reducible rfl))
      try simp only [Act.put, List.setIfInBounds_toArray, List.set_cons_zero, List.set_cons_succ]
      refine H.take (i := 8) (v := ?u8_2) (by simp only [List.getElem?_toArray, List.getElem?_cons_succ, List.getElem?_cons_zero]; rfl) (by kernel_rfl) rfl (by kernel_rfl) (by kernel_rfl) (by kernel_rfl) (fun _ _ _ h => h) ?g8_2 hS5 ?_
      case g8_2 => (intro w hw; go_simp; first | done | (with_reducible rfl))
      try simp only [Act.put, List.setIfInBounds_toArray, List.set_cons_zero, List.set_cons_succ]
      have cx := HR5.out.cell 2 _ rfl
      have fx := HR5.out.frozen 2
      have HR6 := Lib.hid (HR5.out.set (i := 2) (v := .slice va5 bs5.length vc5) (cs' := #[.int .i64 c, .string nx, .slice va5 bs5.length vc5]) rfl)
      have HO6 : Hid (Own B (W5.setCell ⟨b, 2, none⟩ (.slice va5 bs5.length vc5)) (.slice va5 bs5.length vc5) bs5) := Lib.hid (own_set HO5.out HR5.out neW)
      replace bel := bel.setCell (p := ⟨b, 2, none⟩) hBb (.slice va5 bs5.length vc5)
      refine H.one (i := 9) (by simp only [List.getElem?_toArray, List.getElem?_cons_succ, List.getElem?_cons_zero]; rfl) (by kernel_rfl) (by kernel_rfl) (fun K hK => ?_)
      go_simp
      refine hK.out _ _ (Sc.of HR6.out) ?_
      clear hK K
      try simp only [Act.put, List.setIfInBounds_toArray, List.set_cons_zero, List.set_cons_succ]
      refine wpAnyH_done (by kernel_rfl) ?_ _
      clear HR5 HO5 cx fx hS5
      generalize World.setCell _ _ _ = W6 at *
      go_wp2
      go_end0
      exact ⟨rfl, by rw [HX5.out]; exact ⟨hBb, _, HR6.out, HO6.out⟩, bel⟩
/-- The error of a route behind those of the Cmd c. -/
def ckA (c : Int) (m : M) : Int := if m.cmd = c then 0 else 7
set_option maxHeartbeats 6400000 in
theorem add_any (B b : Nat) (c : Int) (nx : ByteArray) (bs : List UInt8) (m : M) (w : World) (h : Wri B b c nx bs w) (hB : B ≤ w.heap.size) (hl : bs.length ≤ 65000) (h1 : Rte.OkE (hopE m.next)) (h2 : Rte.OkE (entM m)) :
    Calls Try.prog 36 #[.pointer (some ⟨b, 0, none⟩), .agg m.cells] w fun r w' => r = .returned (.int .i64 (ckA c m)) ∧ (ckA c m = 0 → Wri B b c m.next (bs ++ (entsM nx m).flatMap putL) w') ∧ Below B w w' := by
  have P1 := Lib.hid (fun bs' W (h : Wri B b c m.next bs' W) (hB : B ≤ W.heap.size) (hl : bs'.length ≤ 900000) => line_any B b c m.next bs' (hopE m.next) W h hB hl h1)
  have P2 := Lib.hid (fun bs' W (h : Wri B b c m.next bs' W) (hB : B ≤ W.heap.size) (hl : bs'.length ≤ 900000) => line_any B b c m.next bs' (entM m) W h hB hl h2)
  have HA := Lib.hid (show ckA c m = if m.cmd = c then 0 else 7 from rfl)
  have HE := Lib.hid (show entsM nx m = (if m.next = nx then [] else [hopE m.next]) ++ [entM m] from rfl)
  have HL1 := Lib.hid (putL_len (hopE m.next))
  have HL2 := Lib.hid (putL_len (entM m))
  obtain ⟨b0, bel⟩ := boxed w m
  have hr := h.below bel
  have hlt := h.lt
  replace bel := bel.mono hB
  clear h h1 h2
  go_enter Try.func36, Try.ntmps36
  go_upto_region 1 with fail
  have hsz := Bk.alloc_size w (.cells m.cells 34)
  generalize w.alloc (.cells m.cells 34) = V at *
  have hBV : B ≤ V.heap.size := by omega
  generalize w.heap.size = g at *
  have hgb : g ≠ b := by omega
  obtain ⟨hBb, v, hb, hown⟩ := hr
  have c1 := b0.cs.c1
  have d0 := hb.cell 0 _ rfl
  have HB := Lib.hid hb
  have HO := Lib.hid hown
  have B0 := Lib.hid b0
  clear hb hown b0
  by_cases hc : m.cmd = c
  rotate_left
  · have HZ := Lib.hid (show ckA c m = 7 by rw [HA.out, if_neg hc])
    have e1 : (m.cmd == c) = false := by simpa using hc
    have e2 : (m.cmd != c) = true := by rw [bne, e1]; rfl
    clear HA hc
    go_region
    go_wp2
    go_ret
    exact ⟨int_eq HZ.out.symm, fun h => absurd h (by rw [HZ.out]; decide), bel.drew⟩
  have HZ := Lib.hid (show ckA c m = 0 by rw [HA.out, if_pos hc])
  have e1 : (m.cmd == c) = true := by simpa using hc
  have e2 : (m.cmd != c) = false := by rw [bne, e1]; rfl
  clear HA hc
  go_region
  replace bel := bel.drew
  replace hBV : B ≤ V.drew.heap.size := hBV
  have HB := Lib.hid HB.out.drew
  have HO : Hid (Own B V.drew v bs) := Lib.hid HO.out
  have B0 := Lib.hid (show Bx V.drew g m from B0.out)
  clear e1 e2 c1 d0
  generalize V.drew = V1 at *
  go_upto_region 3 with fail
  have c9 := B0.out.cs.c9
  have d1 := HB.out.cell 1 _ rfl
  by_cases hn : m.next = nx
  case' pos =>
    have e1 : (m.next.toList == nx.toList) = true := by rw [hn]; exact beq_self_eq_true _
    have e2 : (m.next.toList != nx.toList) = false := by rw [bne, e1]; rfl
    have HE := Lib.hid (show (entsM nx m).flatMap putL = [] ++ putL (entM m) by rw [HE.out, if_pos hn]; simp)
    have HNx := Lib.hid hn.symm
    clear hn
    go_region
    replace bel := bel.drew
    replace hBV : B ≤ V1.drew.heap.size := hBV
    have HW : Hid (Wri B b c m.next (bs ++ []) V1.drew) := Lib.hid (by rw [List.append_nil, HNx.out.symm]; exact ⟨hBb, v, HB.out.drew, HO.out⟩)
    have B0 := Lib.hid (show Bx V1.drew g m from B0.out)
    have HLx : Hid ((bs ++ []).length ≤ 65020) := Lib.hid (by simp; omega)
    clear e1 e2 c9 d1 HB HO HNx P1 HL1
    generalize V1.drew = V2 at *
    generalize ([] : List UInt8) = part at *
    go_upto_region 6 with fail
  case' neg =>
    have e1 : (m.next.toList == nx.toList) = false := by
      rw [beq_eq_false_iff_ne]
      intro h
      rw [ByteArray.toList_eq, ByteArray.toList_eq] at h
      exact hn (Rte.text_eq h)
    have e2 : (m.next.toList != nx.toList) = true := by rw [bne, e1]; rfl
    have HE := Lib.hid (show (entsM nx m).flatMap putL = putL (hopE m.next) ++ putL (entM m) by rw [HE.out, if_neg hn]; simp)
    clear hn
    go_region
    replace bel := bel.drew
    replace hBV : B ≤ V1.drew.heap.size := hBV
    have HB := Lib.hid HB.out.drew
    have HO : Hid (Own B V1.drew v bs) := Lib.hid HO.out
    have B0 := Lib.hid (show Bx V1.drew g m from B0.out)
    clear e1 e2 c9 d1
    generalize V1.drew = V2 at *
    have c9 := B0.out.cs.c9
    have d1 := HB.out.cell 1 _ rfl
    have f1 := HB.out.frozen 1
    go_upto_region 5 with fail
    have HW := Lib.hid (show Wri B b c m.next bs (V2.setCell ⟨b, 1, none⟩ (.string m.next)) from ⟨hBb, v, HB.out.set rfl, own_set HO.out HB.out neW⟩)
    have B0 := Lib.hid (show Bx (V2.setCell ⟨b, 1, none⟩ (.string m.next)) g m from B0.out.off (p := ⟨b, 1, none⟩) (by show g ≠ b; omega) _)
    replace bel := bel.setCell (p := ⟨b, 1, none⟩) hBb (.string m.next)
    replace hBV : B ≤ (V2.setCell ⟨b, 1, none⟩ (.string m.next)).heap.size := by simpa using hBV
    clear c9 d1 f1 HB HO
    generalize World.setCell _ _ _ = V3 at *
    have c9 := B0.out.cs.c9
    go_wp2_with (first | (refine wpList_builtK rfl 45 _ rfl (hopE m.next).cells (by kernel_rfl) ?_))
    refine (P1.out bs _ HW.out hBV (by omega)).mono ?_
    rintro r w1 ⟨rfl, hw1, hb1, ho1⟩
    replace bel := bel.trans hb1
    replace hBV : B ≤ w1.heap.size := by have := hb1.size; omega
    have B0 := Lib.hid (ho1.bx hgb B0.out)
    have HW := Lib.hid hw1
    have HLx : Hid ((bs ++ putL (hopE m.next)).length ≤ 65020) := Lib.hid (by have := HL1.out; simp; omega)
    clear c9 hw1 hb1 ho1 P1 HL1
    generalize putL (hopE m.next) = part at *
    go_upto_region 6 with fail
  all_goals
    have c6 := B0.out.cs.c6
    have c7 := B0.out.cs.c7
    have c8 := B0.out.cs.c8
    have c10 := B0.out.cs.c10
    go_wp2_with (first | (refine wpList_builtK rfl 45 _ rfl (entM m).cells (by kernel_rfl) ?_))
    refine (P2.out (bs ++ part) _ HW.out hBV (by have := HLx.out; omega)).mono ?_
    rintro r w2 ⟨rfl, hw2, hb2, ho2⟩
    replace bel := bel.trans hb2
    have HW2 := Lib.hid (show Wri B b c m.next (bs ++ (entsM nx m).flatMap putL) w2 by rw [HE.out, ← List.append_assoc]; exact hw2)
    have HLy := Lib.hid (show (bs ++ (entsM nx m).flatMap putL).length ≤ 65040 by rw [HE.out, ← List.append_assoc, List.length_append]; have := HLx.out; have := HL2.out; omega)
    clear c6 c7 c8 c10 hw2 hb2 ho2 HW B0 P2 HE HLx HL2
    generalize hx5 : (entsM nx m).flatMap putL = all at *
    have HX5 := Lib.hid hx5
    clear hx5
    obtain ⟨_, v2, hbk, hown⟩ := HW2.out
    obtain ⟨va2, vc2, rfl⟩ := own_form hown
    have d2 := hbk.cell 2 _ rfl
    have hge := Lib.hid HLy.out
    have hg2 : ¬ ((65535 : Int) < ((bs ++ all).length : Int)) := by have := HLy.out; omega
    have hg3 : decide ((65535 : Int) < ((bs ++ all).length : Int)) = false := decide_eq_false hg2
    clear hbk hown HLy
    generalize (bs ++ all).length = n2 at *
    go_wp2
    go_ret
    exact ⟨int_eq HZ.out.symm, fun _ => by rw [HX5.out]; exact HW2.out, bel⟩
end Go.Proofs.Ythfdcmijciclkaa.Wr
