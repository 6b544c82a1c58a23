/-
  The document's example for datagrams of RIPng holds. No conditions.
-/
import Derived.Test.YthfdcmijciclkaaMa
import Derived.Test.YthfdcmijciclkaaEc
import Derived.Test.YthfdcmijciclkaaPa
namespace Go.Proofs.Ythfdcmijciclkaa.Aw
open Go.ChangeShapes Go.WideShapes Go.ChangeAt Go.RowKit
open Go.Proofs.Ythfdcmijciclkaa.Ms
open Go.Proofs.Ythfdcmijciclkaa.Box
open Go.Proofs.Ythfdcmijciclkaa.Rp
open Go.Proofs.Ythfdcmijciclkaa.Rt
open Go.Proofs.Ythfdcmijciclkaa.Hs
open Go.Proofs.Ythfdcmijciclkaa.Hx
open Go.Proofs.Ythfdcmijciclkaa.Ap
open Go.Proofs.Ythfdcmijciclkaa.St
open Go.Proofs.Ythfdcmijciclkaa.Pa
open Go.Proofs.Ythfdcmijciclkaa.Ec
open Go.Proofs.Ythfdcmijciclkaa.All
open Go.Proofs.Ythfdcmijciclkaa.Tk (idx)
open Go.Proofs.Ythfdcmijciclkaa.Oct (cellsL info5 conv_row)
open Go.Proofs.Ythfdcmijciclkaa.Bk (E)
set_option linter.unusedVariables false
set_option maxRecDepth 100000

/- Values alone. -/
def hopB : ByteArray := ⟨#[254, 128, 0, 0, 0, 0, 0, 0, 97, 98, 99, 100, 101, 102, 103, 104]⟩
def exM : M := { M.zero with kind := 2, cmd := 2, pfx := none16, next := hopB, metric := 1 }
def exB : ByteArray := ⟨#[2, 1, 0, 0, 254, 128, 0, 0, 0, 0, 0, 0, 97, 98, 99, 100, 101, 102, 103, 104, 0, 0, 0, 255, 0, 0, 0, 0, 0, 0, 0, 0, 0, 0, 0, 0, 0, 0, 0, 0, 0, 0, 0, 1, 0, 0, 0, 0, 0, 0, 0, 0, 0, 0, 0, 0, 0, 0, 0, 0, 0, 0, 0, 1]⟩
theorem ex_right : rightB exM = true := by
  unfold rightB Bare.bare2
  decide +kernel
theorem ex_wrt : Ma.Wrt [exM, exM] := ⟨by decide, fun m hm => by
  obtain rfl : m = exM := by simpa using hm
  exact ex_right, fun m hm => by
  obtain rfl : m = exM := by simpa using hm
  rfl⟩
theorem ex_bytes : (ByteArray.mk (wrtL [exM, exM]).toArray) = exB := by
  apply ByteArray.ext
  decide +kernel
theorem ex_enc : enc [exM, exM] = (exB, 0, 0) := by rw [ex_wrt.enc, ex_bytes]
theorem ex_out : out exB = ([exM, exM], 0, 0) := by
  have := (Ma.wrt_out ex_wrt (by decide)).1
  rw [ex_bytes] at this
  rw [this]
  rfl
theorem ex_size : ((exB.size : Int) == 64) = true := by decide
theorem ex_cut : exB.extract 4 20 = hopB := by decide +kernel
theorem ex_bt : bt exB 23 = 255 := by decide +kernel

/- Steps of a region that draws its order: the condition made stronger midway; what makes memory. -/
section
variable {P : Program} {ops : Array Oper} {Q : Exit → Act → World → Prop} {md : Region.Mode}
theorem H.more {S S' : World → Prop} (h : ∀ w, S' w → S w) : ∀ (fuel : Nat) (listed : Array Bool) (a : Act) (w : World), wpAnyH P md ops Q S' fuel listed a w → wpAnyH P md ops Q S fuel listed a w
  | 0, _, _, _, hh => hh
  | fuel + 1, _, _, _, hh => ⟨hh.1, fun i hi => wpOp_mono (fun a' w' h' => ⟨h _ h'.1, H.more h fuel _ a' w' h'.2⟩) (hh.2 i hi)⟩
theorem wp_eff {o : Oper} {a : Act} {w w' : World} {K : Act → World → Prop} {d : Nat} {v : Value} (hd : o.dst = some d) (hy : (execOp a.eval o).run P w = .ok (.value v) w') (h : K (a.put (some d) v) w') : Oper.wp P o a w K Q := by
  unfold Oper.wp
  rw [hy]
  simp only [Oper.upon, hd]
  exact h
variable {S : World → Prop}
theorem H.three {i j k : Nat} {o o' o'' : Oper} {fuel : Nat} {listed : Array Bool} {a : Act} {w : World}
    (ho : ops[i]? = some o) (hw : Region.wanted o (yielded ops a.tmps) = true) (ho' : ops[j]? = some o') (hw' : Region.wanted o' (yielded ops a.tmps) = true) (ho'' : ops[k]? = some o'') (hw'' : Region.wanted o'' (yielded ops a.tmps) = true) (hr : Region.ready md ops listed = [i, j, k])
    (h : ∀ K : Act → World → Prop, Hid (∀ a' w', S w' → wpAnyH P md ops Q S fuel (listed.setIfInBounds i true) a' w' → K a' w') → Oper.wp P o a w K Q)
    (h' : ∀ K : Act → World → Prop, Hid (∀ a' w', S w' → wpAnyH P md ops Q S fuel (listed.setIfInBounds j true) a' w' → K a' w') → Oper.wp P o' a w K Q)
    (h'' : ∀ K : Act → World → Prop, Hid (∀ a' w', S w' → wpAnyH P md ops Q S fuel (listed.setIfInBounds k true) a' w' → K a' w') → Oper.wp P o'' a w K Q) : wpAnyH P md ops Q S (fuel + 1) listed a w := by
  refine wpAnyH_ready (rs := [i, j, k]) hr (by simp) ?_
  refine AllReadyH.cons ho (fun K hK => ?_) (AllReadyH.cons ho' (fun K hK => ?_) (AllReadyH.cons ho'' (fun K hK => ?_) AllReadyH.nil))
  · rw [if_pos hw]
    exact h K (Lib.hid (fun a' w' hS hW => hK.out a' w' hS (fun _ => hW)))
  · rw [if_pos hw']
    exact h' K (Lib.hid (fun a' w' hS hW => hK.out a' w' hS (fun _ => hW)))
  · rw [if_pos hw'']
    exact h'' K (Lib.hid (fun a' w' hS hW => hK.out a' w' hS (fun _ => hW)))
end
/-- Sixteen new bytes, as a text in whatever world they stand. -/
theorem made (w : World) : ∃ w2, (Instr.makeSlice 38 (.int .i64 16) (.int .i64 16)).run Try.prog w = .ok (.slice (some ⟨w.heap.size, 0, none⟩) 16 16) w2 ∧ Below w.heap.size w w2 ∧ w.heap.size < w2.heap.size ∧ w2.heap[w.heap.size]? ≠ none ∧
    ∀ W : World, W.heap[w.heap.size]? = w2.heap[w.heap.size]? → (convert 38 9 (.slice (some ⟨w.heap.size, 0, none⟩) 16 16)).run Try.prog W = .ok (.string none16) W := by
  obtain ⟨i0, hi, hz0, hz1, hz2⟩ := info_parts info5
  obtain ⟨w2, hrun, hown, hgrow⟩ := run_make_full (P := Try.prog) w w.heap.size 38 5 i0 (.int .u8 0) 1 Try.underlying38 hi hz0 hz1 .i64 .i64 16 (by rw [hz2]; omega) (by unfold maxLen; omega) (Nat.le_refl _)
  have e : cellsL (List.replicate 16 (0 : UInt8)) = (madeCells #[Value.int .u8 0] 16).toList := by
    rw [toList_madeCells_one]; simp [cellsL]
  have hown : w2.ownsRow w.heap.size 5 1 (.slice (some ⟨w.heap.size, 0, none⟩) 16 16) 16 (cellsL (List.replicate 16 (0 : UInt8))) := by rw [e]; exact hown
  have hlt := (World.ownsRow.lt hown w.heap.size rfl).2
  refine ⟨w2, hrun, (Below.refl w.heap.size w).grown hgrow (Nat.le_refl _) (fun k hk => by cases hk), hlt, by rw [Array.getElem?_eq_getElem hlt]; simp, fun W hW => ?_⟩
  have : W.ownsRow w.heap.size 5 1 (.slice (some ⟨w.heap.size, 0, none⟩) 16 16) 16 (cellsL (List.replicate 16 (0 : UInt8))) := by
    refine ⟨hown.1, ?_⟩
    rcases hown.2 with h | ⟨g, cap, cur, a, b, c, d⟩
    · exact .inl h
    · refine .inr ⟨g, cap, cur, a, b, ?_, d⟩
      simp at a
      rw [← a.1, hW, a.1]
      exact c
  exact conv_row W w.heap.size 16 w.heap.size (List.replicate 16 0) 16 (by simp) this
theorem hop_any (w : World) : Calls Try.prog 16 #[] w fun e w' => e = .returned (.string hopB) ∧ w' = w := by
  go_enter Try.func16, Try.ntmps16
  go_wp2
  go_ret
  exact ⟨rfl, rfl⟩
theorem ex_short : ∀ m ∈ [exM, exM], Short m := fun m hm => by
  obtain rfl : m = exM := by simpa using hm
  exact ⟨Nat.zero_le _, Nat.zero_le _⟩
theorem parse_ex (w : World) : Calls Try.prog 8 #[.string exB] w fun e w' => ∃ p c, e = .returned (.tuple #[.slice (some p) 2 c, .int .i64 0, .int .i64 0]) ∧ MRow w' (some p) [exM, exM] ∧ Below w.heap.size w w' := by
  refine (parse_any exB w (by decide)).mono ?_
  rw [ex_out]
  rintro e w' ⟨a, c, rfl, hm, hb⟩
  obtain ⟨p, rfl, _⟩ := hm 0 (by decide)
  exact ⟨p, c, rfl, hm, hb⟩
theorem encode_ex (p : Addr) (c : Nat) (w : World) (h : MRow w (some p) [exM, exM]) : Calls Try.prog 14 #[.slice (some p) 2 c] w fun e w' => e = .returned (.tuple #[.string exB, .int .i64 0, .int .i64 0]) ∧ Below w.heap.size w w' := by
  have := encode_any (some p) c [exM, exM] w h ex_short (by decide)
  rw [ex_enc] at this
  exact this
theorem right_ex (w : World) : Calls Try.prog 12 #[.agg exM.cells] w fun e w' => e = .returned (.bool true) ∧ Below w.heap.size w w' := by
  have := Rt.right_any exM w ⟨DRow.nil _ _, SRow.nil _ _, Nat.zero_le _, Nat.zero_le _⟩
  rw [ex_right] at this
  exact this
theorem build_row (m n : M) (w : World) : (Instr.buildSlice 23 2 #[(0, .agg m.cells), (1, .agg n.cells)]).run Try.prog w = .ok (.slice (some ⟨w.heap.size, 0, none⟩) 2 2) (w.alloc (.cells (m.cells ++ n.cells) 34)) := by
  kernel_rfl
theorem bs_two {ops : Array Oper} {rest : List Oper} {o : Oper} {a : Act} {w : World} {Q : Exit → Act → World → Prop} (hgd : o.guard = none) (x y : Operand) (ho : o.op = .buildSlice 23 2 #[(0, x), (1, y)])
    {m n : M} (hx : a.eval x = .agg m.cells) (hy : a.eval y = .agg n.cells) (h : wpList Try.prog ops Q rest (a.put o.dst (.slice (some ⟨w.heap.size, 0, none⟩) 2 2)) (w.alloc (.cells (m.cells ++ n.cells) 34))) : wpList Try.prog ops Q (o :: rest) a w :=
  wpList_plain hgd fun K hK => by
    have e : ((#[(0, x), (1, y)] : Array (Nat × Operand)).map fun (i, x) => (i, a.eval x)) = #[(0, .agg m.cells), (1, .agg n.cells)] := by simp [hx, hy]
    unfold Oper.wp execOp
    simp only [ho, Sem.run_bind, e, build_row, Result.andThen_ok, Sem.run_pure, Oper.upon]
    exact hK _ _ h
theorem two_cells (m n : M) (w : World) : ∀ j v, ((m.cells ++ n.cells).toList)[j]? = some v → (w.alloc (.cells (m.cells ++ n.cells) 34)).cell? ⟨w.heap.size, j, none⟩ = some v := fun j v hv =>
  (Bk.Bk.new 34 w (m.cells ++ n.cells)).cell j v (by rw [← Array.getElem?_toList]; exact hv)
theorem two_row (m n : M) (w : World) (hm : m.ll = [] ∧ m.sl = []) (hn : n.ll = [] ∧ n.sl = []) : MRow (w.alloc (.cells (m.cells ++ n.cells) 34)) (some ⟨w.heap.size, 0, none⟩) [m, n] := by
  have hc := two_cells m n w
  have hs : m.cells.toList.length = 25 := rfl
  intro i hi
  refine ⟨⟨w.heap.size, 0, none⟩, rfl, by rw [Bk.alloc_size]; exact Nat.lt_succ_self _, ?_⟩
  match i, hi with
  | 0, _ =>
    refine ⟨fun j v hv => ?_, by show DRow _ m.la m.ll; rw [hm.1]; exact DRow.nil _ _, by show SRow _ m.sa m.sl; rw [hm.2]; exact SRow.nil _ _⟩
    rw [add_at, add_at, Nat.zero_mul, Nat.add_zero, Nat.zero_add]
    refine hc j v ?_
    have hv : m.cells.toList[j]? = some v := hv
    have hj := (List.getElem?_eq_some_iff.1 hv).1
    rw [Array.toList_append, List.getElem?_append_left hj]
    exact hv
  | 1, _ =>
    refine ⟨fun j v hv => ?_, by show DRow _ n.la n.ll; rw [hn.1]; exact DRow.nil _ _, by show SRow _ n.sa n.sl; rw [hn.2]; exact SRow.nil _ _⟩
    rw [add_at, add_at]
    refine hc _ v ?_
    have hv : n.cells.toList[j]? = some v := hv
    rw [Array.toList_append, List.getElem?_append_right (by rw [hs]; omega), hs, show 0 + 1 * 25 + j - 25 = j by omega]
    exact hv

/-- What the last statement's loads read. -/
structure Sa (w W : World) (g : Nat) (q : Addr) : Prop where
  m : Bx W g exM
  c9 : W.cell? ⟨q.block, q.off + 9, none⟩ = some (.string hopB)
  blk : q.block < W.heap.size
  bel : Below w.heap.size w W
theorem Sa.call {w W W' : World} {g : Nat} {q : Addr} (h : Sa w W g q) (hb : Below W.heap.size W W') : Sa w W' g q :=
  ⟨h.m.below hb, (hb.cell (p := ⟨q.block, q.off + 9, none⟩) h.blk).trans h.c9, Nat.lt_of_lt_of_le h.blk hb.size, h.bel.trans (hb.mono h.bel.size)⟩
theorem heldA {P : Program} {f : Nat} {args : Array Value} {v : Ending} {w W : World} {g : Nat} {q : Addr} (h : Calls P f args W fun e w' => e = v ∧ Below W.heap.size W w') (hS : Sa w W g q) : Calls P f args W fun e w' => e = v ∧ Sa w w' g q :=
  h.mono fun _ _ ⟨he, hb⟩ => ⟨he, hS.call hb⟩
theorem heldS {P : Program} {f : Nat} {args : Array Value} {v : Ending} {w W : World} {g : Nat} {q : Addr} (h : Calls P f args W fun e w' => e = v ∧ w' = W) (hS : Sa w W g q) : Calls P f args W fun e w' => e = v ∧ Sa w w' g q :=
  h.mono fun _ _ ⟨he, hb⟩ => ⟨he, hb ▸ hS⟩

set_option maxHeartbeats 12800000 in
theorem awake_any (w : World) : Calls Try.prog 7 #[] w fun e w' => e = .returned (.bool true) ∧ Below w.heap.size w w' := by
  have P0 := Lib.hid (fun W => hop_any W)
  go_enter Try.func7, Try.ntmps7
  go_upto_region 1 with fail
  go_cut [1] (fun m1 wx => ∃ g, m1 = .pointer (some ⟨g, 0, none⟩) ∧ Bx wx g exM ∧ Below w.heap.size w wx)
  case first =>
    have HB := Lib.hid (show Below w.heap.size w w.drew from (Below.refl _ _).drew)
    refine wp_region_held_drew (S := fun _ => True) (by kernel_rfl) trivial (fun hS => ?_)
    generalize w.drew = w0 at *
    refine H.three (i := 0) (j := 2) (k := 4) (by simp only [List.getElem?_toArray, List.getElem?_cons_zero]; rfl) (by kernel_rfl) (by simp only [List.getElem?_toArray, List.getElem?_cons_succ, List.getElem?_cons_zero]; rfl) (by kernel_rfl) (by simp only [List.getElem?_toArray, List.getElem?_cons_succ, List.getElem?_cons_zero]; rfl) (by kernel_rfl) (by kernel_rfl) (fun K hK => ?_) (fun K hK => ?_) (fun K hK => ?_)
    · obtain ⟨wA, hrun, hbA, hltA, hnA, hcv⟩ := made w0
      have HCv := Lib.hid hcv
      have HBA := Lib.hid hbA
      refine wp_eff rfl (v := .slice (some ⟨w0.heap.size, 0, none⟩) 16 16) (w' := wA) (by unfold execOp; simp only [Sem.run_bind, Act.eval, hrun, Result.andThen_ok, Sem.run_pure]) ?_
      refine hK.out _ _ trivial ?_
      clear hK K hrun hcv
      try simp only [Act.put, List.setIfInBounds_toArray, List.set_cons_zero, List.set_cons_succ]
      have HB := Lib.hid (HB.out.trans (hbA.mono HB.out.size))
      refine H.more (S' := fun W => W.heap[w0.heap.size]? = wA.heap[w0.heap.size]?) (fun _ _ => trivial) _ _ _ _ ?_
      have hS : wA.heap[w0.heap.size]? = wA.heap[w0.heap.size]? := rfl
      refine H.take (i := 1) (v := .string none16) (by simp only [List.getElem?_toArray, List.getElem?_cons_succ, List.getElem?_cons_zero]; rfl) (by kernel_rfl) rfl (by kernel_rfl) (by kernel_rfl) (by kernel_rfl) (fun _ _ _ h => h) ?hc0 hS ?_
      case hc0 => (intro w hw; have hx := HCv.out w hw; go_simp)
      try simp only [Act.put, List.setIfInBounds_toArray, List.set_cons_zero, List.set_cons_succ]
      refine H.two (i := 2) (j := 4) (by simp only [List.getElem?_toArray, List.getElem?_cons_succ, List.getElem?_cons_zero]; rfl) (by kernel_rfl) (by simp only [List.getElem?_toArray, List.getElem?_cons_succ, List.getElem?_cons_zero]; rfl) (by kernel_rfl) (by kernel_rfl) (fun K hK => ?_) (fun K hK => ?_)
      · go_simp
        refine (P0.out _).mono ?_
        rintro e w2 ⟨rfl, h2⟩
        subst w2
        refine hK.out _ _ hS ?_
        clear hK K
        try simp only [Act.put, List.setIfInBounds_toArray, List.set_cons_zero, List.set_cons_succ]
        refine H.take (i := 3) (v := .agg (M.cells exM)) (by simp only [List.getElem?_toArray, List.getElem?_cons_succ, List.getElem?_cons_zero]; rfl) (by kernel_rfl) rfl (by kernel_rfl) (by kernel_rfl) (by kernel_rfl) (fun _ _ _ h => h) (fun w _ => ex_built rfl (by kernel_rfl)) hS ?_
        try simp only [Act.put, List.setIfInBounds_toArray, List.set_cons_zero, List.set_cons_succ]
        refine H.one (i := 4) (by simp only [List.getElem?_toArray, List.getElem?_cons_succ, List.getElem?_cons_zero]; rfl) (by kernel_rfl) (by kernel_rfl) (fun K hK => ?_)
        · go_simp
          refine hK.out _ _ (by exact (heap_alloc_old _ _ (by omega)).trans hS) ?_
          clear hK K
          have HM : Hid (Bx (wA.alloc (.cells M.zero.cells 34)) wA.heap.size M.zero) := Lib.hid (Bx.new wA M.zero)
          have HG := Lib.hid (HB.out.size)
          have HB := Lib.hid (balloc HB.out (.cells M.zero.cells 34))
          have hS : (wA.alloc (.cells M.zero.cells 34)).heap[w0.heap.size]? = wA.heap[w0.heap.size]? := (heap_alloc_old _ _ (by omega)).trans hS
          try simp only [Act.put, List.setIfInBounds_toArray, List.set_cons_zero, List.set_cons_succ]
          change wpAnyH _ _ _ _ _ _ _ _ (wA.alloc (.cells M.zero.cells 34))
          generalize wA.alloc (.cells M.zero.cells 34) = WC at *
          refine Hx.H.storeRow (i := 5) (by simp only [List.getElem?_toArray, List.getElem?_cons_succ, List.getElem?_cons_zero]; rfl) (by kernel_rfl) rfl rfl (by kernel_rfl) wA.heap.size exM.cells rfl rfl 34 M.zero.cells HM.out infoM rfl (oneM _) (by exact (setRow_other _ _ _ _ (by omega)).trans hS) ?_
          refine wpAnyH_done (by kernel_rfl) ?_ _
          go_wp2_with fail
          go_meet
          exact ⟨_, rfl, HM.out.put, below_setRow HB.out (by have := HG.out; omega) _⟩
      · go_simp
        refine hK.out _ _ (by exact (heap_alloc_old _ _ (by omega)).trans hS) ?_
        clear hK K
        have HM : Hid (Bx (wA.alloc (.cells M.zero.cells 34)) wA.heap.size M.zero) := Lib.hid (Bx.new wA M.zero)
        have HG := Lib.hid (HB.out.size)
        have HB := Lib.hid (balloc HB.out (.cells M.zero.cells 34))
        have hS : (wA.alloc (.cells M.zero.cells 34)).heap[w0.heap.size]? = wA.heap[w0.heap.size]? := (heap_alloc_old _ _ (by omega)).trans hS
        try simp only [Act.put, List.setIfInBounds_toArray, List.set_cons_zero, List.set_cons_succ]
        change wpAnyH _ _ _ _ _ _ _ _ (wA.alloc (.cells M.zero.cells 34))
        generalize wA.alloc (.cells M.zero.cells 34) = WC at *
        refine H.one (i := 2) (by simp only [List.getElem?_toArray, List.getElem?_cons_succ, List.getElem?_cons_zero]; rfl) (by kernel_rfl) (by kernel_rfl) (fun K hK => ?_)
        · go_simp
          refine (P0.out _).mono ?_
          rintro e w2 ⟨rfl, h2⟩
          subst w2
          refine hK.out _ _ hS ?_
          clear hK K
          try simp only [Act.put, List.setIfInBounds_toArray, List.set_cons_zero, List.set_cons_succ]
          refine H.take (i := 3) (v := .agg (M.cells exM)) (by simp only [List.getElem?_toArray, List.getElem?_cons_succ, List.getElem?_cons_zero]; rfl) (by kernel_rfl) rfl (by kernel_rfl) (by kernel_rfl) (by kernel_rfl) (fun _ _ _ h => h) (fun w _ => ex_built rfl (by kernel_rfl)) hS ?_
          try simp only [Act.put, List.setIfInBounds_toArray, List.set_cons_zero, List.set_cons_succ]
          refine Hx.H.storeRow (i := 5) (by simp only [List.getElem?_toArray, List.getElem?_cons_succ, List.getElem?_cons_zero]; rfl) (by kernel_rfl) rfl rfl (by kernel_rfl) wA.heap.size exM.cells rfl rfl 34 M.zero.cells HM.out infoM rfl (oneM _) (by exact (setRow_other _ _ _ _ (by omega)).trans hS) ?_
          refine wpAnyH_done (by kernel_rfl) ?_ _
          go_wp2_with fail
          go_meet
          exact ⟨_, rfl, HM.out.put, below_setRow HB.out (by have := HG.out; omega) _⟩
    · go_simp
      refine (P0.out _).mono ?_
      rintro e w2 ⟨rfl, h2⟩
      subst w2
      refine hK.out _ _ trivial ?_
      clear hK K
      try simp only [Act.put, List.setIfInBounds_toArray, List.set_cons_zero, List.set_cons_succ]
      refine H.two (i := 0) (j := 4) (by simp only [List.getElem?_toArray, List.getElem?_cons_zero]; rfl) (by kernel_rfl) (by simp only [List.getElem?_toArray, List.getElem?_cons_succ, List.getElem?_cons_zero]; rfl) (by kernel_rfl) (by kernel_rfl) (fun K hK => ?_) (fun K hK => ?_)
      · obtain ⟨wA, hrun, hbA, hltA, hnA, hcv⟩ := made w0
        have HCv := Lib.hid hcv
        have HBA := Lib.hid hbA
        refine wp_eff rfl (v := .slice (some ⟨w0.heap.size, 0, none⟩) 16 16) (w' := wA) (by unfold execOp; simp only [Sem.run_bind, Act.eval, hrun, Result.andThen_ok, Sem.run_pure]) ?_
        refine hK.out _ _ trivial ?_
        clear hK K hrun hcv
        try simp only [Act.put, List.setIfInBounds_toArray, List.set_cons_zero, List.set_cons_succ]
        have HB := Lib.hid (HB.out.trans (hbA.mono HB.out.size))
        refine H.more (S' := fun W => W.heap[w0.heap.size]? = wA.heap[w0.heap.size]?) (fun _ _ => trivial) _ _ _ _ ?_
        have hS : wA.heap[w0.heap.size]? = wA.heap[w0.heap.size]? := rfl
        refine H.take (i := 1) (v := .string none16) (by simp only [List.getElem?_toArray, List.getElem?_cons_succ, List.getElem?_cons_zero]; rfl) (by kernel_rfl) rfl (by kernel_rfl) (by kernel_rfl) (by kernel_rfl) (fun _ _ _ h => h) ?hc1 hS ?_
        case hc1 => (intro w hw; have hx := HCv.out w hw; go_simp)
        try simp only [Act.put, List.setIfInBounds_toArray, List.set_cons_zero, List.set_cons_succ]
        refine H.take (i := 3) (v := .agg (M.cells exM)) (by simp only [List.getElem?_toArray, List.getElem?_cons_succ, List.getElem?_cons_zero]; rfl) (by kernel_rfl) rfl (by kernel_rfl) (by kernel_rfl) (by kernel_rfl) (fun _ _ _ h => h) (fun w _ => ex_built rfl (by kernel_rfl)) hS ?_
        try simp only [Act.put, List.setIfInBounds_toArray, List.set_cons_zero, List.set_cons_succ]
        refine H.one (i := 4) (by simp only [List.getElem?_toArray, List.getElem?_cons_succ, List.getElem?_cons_zero]; rfl) (by kernel_rfl) (by kernel_rfl) (fun K hK => ?_)
        · go_simp
          refine hK.out _ _ (by exact (heap_alloc_old _ _ (by omega)).trans hS) ?_
          clear hK K
          have HM : Hid (Bx (wA.alloc (.cells M.zero.cells 34)) wA.heap.size M.zero) := Lib.hid (Bx.new wA M.zero)
          have HG := Lib.hid (HB.out.size)
          have HB := Lib.hid (balloc HB.out (.cells M.zero.cells 34))
          have hS : (wA.alloc (.cells M.zero.cells 34)).heap[w0.heap.size]? = wA.heap[w0.heap.size]? := (heap_alloc_old _ _ (by omega)).trans hS
          try simp only [Act.put, List.setIfInBounds_toArray, List.set_cons_zero, List.set_cons_succ]
          change wpAnyH _ _ _ _ _ _ _ _ (wA.alloc (.cells M.zero.cells 34))
          generalize wA.alloc (.cells M.zero.cells 34) = WC at *
          refine Hx.H.storeRow (i := 5) (by simp only [List.getElem?_toArray, List.getElem?_cons_succ, List.getElem?_cons_zero]; rfl) (by kernel_rfl) rfl rfl (by kernel_rfl) wA.heap.size exM.cells rfl rfl 34 M.zero.cells HM.out infoM rfl (oneM _) (by exact (setRow_other _ _ _ _ (by omega)).trans hS) ?_
          refine wpAnyH_done (by kernel_rfl) ?_ _
          go_wp2_with fail
          go_meet
          exact ⟨_, rfl, HM.out.put, below_setRow HB.out (by have := HG.out; omega) _⟩
      · go_simp
        refine hK.out _ _ (trivial) ?_
        clear hK K
        have HM : Hid (Bx (w0.alloc (.cells M.zero.cells 34)) w0.heap.size M.zero) := Lib.hid (Bx.new w0 M.zero)
        have HG := Lib.hid (HB.out.size)
        have HB := Lib.hid (balloc HB.out (.cells M.zero.cells 34))
        try simp only [Act.put, List.setIfInBounds_toArray, List.set_cons_zero, List.set_cons_succ]
        change wpAnyH _ _ _ _ _ _ _ _ (w0.alloc (.cells M.zero.cells 34))
        generalize w0.alloc (.cells M.zero.cells 34) = WC at *
        refine H.one (i := 0) (by simp only [List.getElem?_toArray, List.getElem?_cons_zero]; rfl) (by kernel_rfl) (by kernel_rfl) (fun K hK => ?_)
        · obtain ⟨wA, hrun, hbA, hltA, hnA, hcv⟩ := made WC
          have HCv := Lib.hid hcv
          have HBA := Lib.hid hbA
          refine wp_eff rfl (v := .slice (some ⟨WC.heap.size, 0, none⟩) 16 16) (w' := wA) (by unfold execOp; simp only [Sem.run_bind, Act.eval, hrun, Result.andThen_ok, Sem.run_pure]) ?_
          refine hK.out _ _ trivial ?_
          clear hK K hrun hcv
          try simp only [Act.put, List.setIfInBounds_toArray, List.set_cons_zero, List.set_cons_succ]
          have HB := Lib.hid (HB.out.trans (hbA.mono HB.out.size))
          have hne := HM.out.lt
          have HM := Lib.hid (HM.out.below hbA)
          refine H.more (S' := fun W => W.heap[WC.heap.size]? = wA.heap[WC.heap.size]?) (fun _ _ => trivial) _ _ _ _ ?_
          have hS : wA.heap[WC.heap.size]? = wA.heap[WC.heap.size]? := rfl
          refine H.take (i := 1) (v := .string none16) (by simp only [List.getElem?_toArray, List.getElem?_cons_succ, List.getElem?_cons_zero]; rfl) (by kernel_rfl) rfl (by kernel_rfl) (by kernel_rfl) (by kernel_rfl) (fun _ _ _ h => h) ?hc2 hS ?_
          case hc2 => (intro w hw; have hx := HCv.out w hw; go_simp)
          try simp only [Act.put, List.setIfInBounds_toArray, List.set_cons_zero, List.set_cons_succ]
          refine H.take (i := 3) (v := .agg (M.cells exM)) (by simp only [List.getElem?_toArray, List.getElem?_cons_succ, List.getElem?_cons_zero]; rfl) (by kernel_rfl) rfl (by kernel_rfl) (by kernel_rfl) (by kernel_rfl) (fun _ _ _ h => h) (fun w _ => ex_built rfl (by kernel_rfl)) hS ?_
          try simp only [Act.put, List.setIfInBounds_toArray, List.set_cons_zero, List.set_cons_succ]
          refine Hx.H.storeRow (i := 5) (by simp only [List.getElem?_toArray, List.getElem?_cons_succ, List.getElem?_cons_zero]; rfl) (by kernel_rfl) rfl rfl (by kernel_rfl) w0.heap.size exM.cells rfl rfl 34 M.zero.cells HM.out infoM rfl (oneM _) (by exact (setRow_other _ _ _ _ (by omega)).trans hS) ?_
          refine wpAnyH_done (by kernel_rfl) ?_ _
          go_wp2_with fail
          go_meet
          exact ⟨_, rfl, HM.out.put, below_setRow HB.out (by have := HG.out; omega) _⟩
    · go_simp
      refine hK.out _ _ (trivial) ?_
      clear hK K
      have HM : Hid (Bx (w0.alloc (.cells M.zero.cells 34)) w0.heap.size M.zero) := Lib.hid (Bx.new w0 M.zero)
      have HG := Lib.hid (HB.out.size)
      have HB := Lib.hid (balloc HB.out (.cells M.zero.cells 34))
      try simp only [Act.put, List.setIfInBounds_toArray, List.set_cons_zero, List.set_cons_succ]
      change wpAnyH _ _ _ _ _ _ _ _ (w0.alloc (.cells M.zero.cells 34))
      generalize w0.alloc (.cells M.zero.cells 34) = WC at *
      refine H.two (i := 0) (j := 2) (by simp only [List.getElem?_toArray, List.getElem?_cons_zero]; rfl) (by kernel_rfl) (by simp only [List.getElem?_toArray, List.getElem?_cons_succ, List.getElem?_cons_zero]; rfl) (by kernel_rfl) (by kernel_rfl) (fun K hK => ?_) (fun K hK => ?_)
      · obtain ⟨wA, hrun, hbA, hltA, hnA, hcv⟩ := made WC
        have HCv := Lib.hid hcv
        have HBA := Lib.hid hbA
        refine wp_eff rfl (v := .slice (some ⟨WC.heap.size, 0, none⟩) 16 16) (w' := wA) (by unfold execOp; simp only [Sem.run_bind, Act.eval, hrun, Result.andThen_ok, Sem.run_pure]) ?_
        refine hK.out _ _ trivial ?_
        clear hK K hrun hcv
        try simp only [Act.put, List.setIfInBounds_toArray, List.set_cons_zero, List.set_cons_succ]
        have HB := Lib.hid (HB.out.trans (hbA.mono HB.out.size))
        have hne := HM.out.lt
        have HM := Lib.hid (HM.out.below hbA)
        refine H.more (S' := fun W => W.heap[WC.heap.size]? = wA.heap[WC.heap.size]?) (fun _ _ => trivial) _ _ _ _ ?_
        have hS : wA.heap[WC.heap.size]? = wA.heap[WC.heap.size]? := rfl
        refine H.take (i := 1) (v := .string none16) (by simp only [List.getElem?_toArray, List.getElem?_cons_succ, List.getElem?_cons_zero]; rfl) (by kernel_rfl) rfl (by kernel_rfl) (by kernel_rfl) (by kernel_rfl) (fun _ _ _ h => h) ?hc3 hS ?_
        case hc3 => (intro w hw; have hx := HCv.out w hw; go_simp)
        try simp only [Act.put, List.setIfInBounds_toArray, List.set_cons_zero, List.set_cons_succ]
        refine H.one (i := 2) (by simp only [List.getElem?_toArray, List.getElem?_cons_succ, List.getElem?_cons_zero]; rfl) (by kernel_rfl) (by kernel_rfl) (fun K hK => ?_)
        · go_simp
          refine (P0.out _).mono ?_
          rintro e w2 ⟨rfl, h2⟩
          subst w2
          refine hK.out _ _ hS ?_
          clear hK K
          try simp only [Act.put, List.setIfInBounds_toArray, List.set_cons_zero, List.set_cons_succ]
          refine H.take (i := 3) (v := .agg (M.cells exM)) (by simp only [List.getElem?_toArray, List.getElem?_cons_succ, List.getElem?_cons_zero]; rfl) (by kernel_rfl) rfl (by kernel_rfl) (by kernel_rfl) (by kernel_rfl) (fun _ _ _ h => h) (fun w _ => ex_built rfl (by kernel_rfl)) hS ?_
          try simp only [Act.put, List.setIfInBounds_toArray, List.set_cons_zero, List.set_cons_succ]
          refine Hx.H.storeRow (i := 5) (by simp only [List.getElem?_toArray, List.getElem?_cons_succ, List.getElem?_cons_zero]; rfl) (by kernel_rfl) rfl rfl (by kernel_rfl) w0.heap.size exM.cells rfl rfl 34 M.zero.cells HM.out infoM rfl (oneM _) (by exact (setRow_other _ _ _ _ (by omega)).trans hS) ?_
          refine wpAnyH_done (by kernel_rfl) ?_ _
          go_wp2_with fail
          go_meet
          exact ⟨_, rfl, HM.out.put, below_setRow HB.out (by have := HG.out; omega) _⟩
      · go_simp
        refine (P0.out _).mono ?_
        rintro e w2 ⟨rfl, h2⟩
        subst w2
        refine hK.out _ _ trivial ?_
        clear hK K
        try simp only [Act.put, List.setIfInBounds_toArray, List.set_cons_zero, List.set_cons_succ]
        refine H.one (i := 0) (by simp only [List.getElem?_toArray, List.getElem?_cons_zero]; rfl) (by kernel_rfl) (by kernel_rfl) (fun K hK => ?_)
        · obtain ⟨wA, hrun, hbA, hltA, hnA, hcv⟩ := made WC
          have HCv := Lib.hid hcv
          have HBA := Lib.hid hbA
          refine wp_eff rfl (v := .slice (some ⟨WC.heap.size, 0, none⟩) 16 16) (w' := wA) (by unfold execOp; simp only [Sem.run_bind, Act.eval, hrun, Result.andThen_ok, Sem.run_pure]) ?_
          refine hK.out _ _ trivial ?_
          clear hK K hrun hcv
          try simp only [Act.put, List.setIfInBounds_toArray, List.set_cons_zero, List.set_cons_succ]
          have HB := Lib.hid (HB.out.trans (hbA.mono HB.out.size))
          have hne := HM.out.lt
          have HM := Lib.hid (HM.out.below hbA)
          refine H.more (S' := fun W => W.heap[WC.heap.size]? = wA.heap[WC.heap.size]?) (fun _ _ => trivial) _ _ _ _ ?_
          have hS : wA.heap[WC.heap.size]? = wA.heap[WC.heap.size]? := rfl
          refine H.take (i := 1) (v := .string none16) (by simp only [List.getElem?_toArray, List.getElem?_cons_succ, List.getElem?_cons_zero]; rfl) (by kernel_rfl) rfl (by kernel_rfl) (by kernel_rfl) (by kernel_rfl) (fun _ _ _ h => h) ?hc4 hS ?_
          case hc4 => (intro w hw; have hx := HCv.out w hw; go_simp)
          try simp only [Act.put, List.setIfInBounds_toArray, List.set_cons_zero, List.set_cons_succ]
          refine H.take (i := 3) (v := .agg (M.cells exM)) (by simp only [List.getElem?_toArray, List.getElem?_cons_succ, List.getElem?_cons_zero]; rfl) (by kernel_rfl) rfl (by kernel_rfl) (by kernel_rfl) (by kernel_rfl) (fun _ _ _ h => h) (fun w _ => ex_built rfl (by kernel_rfl)) hS ?_
          try simp only [Act.put, List.setIfInBounds_toArray, List.set_cons_zero, List.set_cons_succ]
          refine Hx.H.storeRow (i := 5) (by simp only [List.getElem?_toArray, List.getElem?_cons_succ, List.getElem?_cons_zero]; rfl) (by kernel_rfl) rfl rfl (by kernel_rfl) w0.heap.size exM.cells rfl rfl 34 M.zero.cells HM.out infoM rfl (oneM _) (by exact (setRow_other _ _ _ _ (by omega)).trans hS) ?_
          refine wpAnyH_done (by kernel_rfl) ?_ _
          go_wp2_with fail
          go_meet
          exact ⟨_, rfl, HM.out.put, below_setRow HB.out (by have := HG.out; omega) _⟩
  case rest =>
    obtain ⟨g, rfl, hm, hb⟩ := hcut
    have HM := Lib.hid hm
    have HB := Lib.hid hb
    clear hm hb
    have P1 := Lib.hid (fun W => encode_ex ⟨W.heap.size, 0, none⟩ 2 _ (two_row exM exM W ⟨rfl, rfl⟩ ⟨rfl, rfl⟩))
    have P2 := Lib.hid (fun W => parse_ex W)
    have P3 := Lib.hid (fun W => right_ex W)
    have HMc := Lib.hid (fun W (p : Addr) (h : MRow W (some p) [exM, exM]) => show W.cell? ⟨(p.add (1 * 25)).block, (p.add (1 * 25)).off + 9, none⟩ = some (.string hopB) ∧ (p.add (1 * 25)).block < W.heap.size by
      obtain ⟨p2, hp2, hlt, hc, _, _⟩ := h 1 (by decide)
      obtain rfl : p = p2 := by simpa using hp2
      exact ⟨hc 9 (.string hopB) rfl, by rw [add_block]; exact hlt⟩)
    have hsz := ex_size
    have sl := Rte.sl_m exB 4 20 4 20 rfl rfl (by decide) (by decide)
    have j23 := idx exB 23 23 rfl (by decide)
    rw [ex_cut] at sl
    rw [ex_bt] at j23
    have hq : (hopB.toList == hopB.toList) = true := beq_self_eq_true _
    generalize exB = t at *
    go_wp2_with (first | (refine wpList_loadM (b := g) (m := exM) rfl _ rfl rfl HM.out ?_) | (refine bs_two rfl _ _ rfl (m := exM) (n := exM) rfl rfl ?_))
    have HM := Lib.hid (HM.out.below (balloc (Below.refl _ _) (.cells (exM.cells ++ exM.cells) 34)))
    have HB := Lib.hid (balloc HB.out (.cells (exM.cells ++ exM.cells) 34))
    refine (P1.out _).mono ?_
    rintro e w3 ⟨rfl, hb⟩
    have HM := Lib.hid (HM.out.below hb)
    have HB := Lib.hid (bcall HB.out hb)
    clear hb P1
    go_wp2_with fail
    refine (P2.out _).mono ?_
    rintro e w4 ⟨p, c, rfl, hrow, hb⟩
    have HM := Lib.hid (HM.out.below hb)
    have HB := Lib.hid (bcall HB.out hb)
    have HC := Lib.hid (HMc.out _ p hrow)
    clear hb P2 hrow HMc
    have ix1 := indexM p 2 c 1 (by decide)
    have hqe : ({ block := p.block, off := p.off + 25 } : Addr) = p.add (1 * 25) := rfl
    generalize p.add (1 * 25) = q at *
    go_upto_region 4 with fail
    have HS := Lib.hid (show Sa w w4.drew g q from ⟨HM.out, HC.out.1, HC.out.2, HB.out.drew⟩)
    clear HM HB HC
    refine wp_region_held_drew (S := fun W => Sa w W g q) (by kernel_rfl) HS.out (fun hS => ?_)
    clear HS
    generalize w4.drew = w0 at *
    refine H.take (i := 0) (v := ?v0) (by simp only [List.getElem?_toArray, List.getElem?_cons_zero]; rfl) (by kernel_rfl) rfl (by kernel_rfl) (by kernel_rfl) (by kernel_rfl) (fun _ _ _ h => h) ?h0 hS ?_
    case h0 => (intro w hw; go_simp; first | done | (with_reducible rfl))
    try simp only [Act.put, List.setIfInBounds_toArray, List.set_cons_zero, List.set_cons_succ]
    refine H.take (i := 1) (v := .bool true) (by simp only [List.getElem?_toArray, List.getElem?_cons_succ, List.getElem?_cons_zero]; rfl) (by kernel_rfl) rfl (by kernel_rfl) (by kernel_rfl) (by kernel_rfl) (fun _ _ _ h => h) ?h1 hS ?_
    case h1 => exact (by intro w hw; go_simp)
    try simp only [Act.put, List.setIfInBounds_toArray, List.set_cons_zero, List.set_cons_succ]
    refine H.take (i := 2) (v := (.bool true)) (by simp only [List.getElem?_toArray, List.getElem?_cons_succ, List.getElem?_cons_zero]; rfl) (by kernel_rfl) rfl (by kernel_rfl) (by kernel_rfl) (by kernel_rfl) (fun _ _ _ h => h) (fun w _ => rfl) hS ?_
    try simp only [Act.put, List.setIfInBounds_toArray, List.set_cons_zero, List.set_cons_succ]
    refine H.take (i := 3) (v := ?v3) (by simp only [List.getElem?_toArray, List.getElem?_cons_succ, List.getElem?_cons_zero]; rfl) (by kernel_rfl) rfl (by kernel_rfl) (by kernel_rfl) (by kernel_rfl) (fun _ _ _ h => h) ?h3 hS ?_
    case h3 => (intro w hw; go_simp; first | done | (with_reducible rfl))
    try simp only [Act.put, List.setIfInBounds_toArray, List.set_cons_zero, List.set_cons_succ]
    refine H.take (i := 4) (v := .bool true) (by simp only [List.getElem?_toArray, List.getElem?_cons_succ, List.getElem?_cons_zero]; rfl) (by kernel_rfl) rfl (by kernel_rfl) (by kernel_rfl) (by kernel_rfl) (fun _ _ _ h => h) ?h4 hS ?_
    case h4 => exact (by intro w hw; go_simp)
    try simp only [Act.put, List.setIfInBounds_toArray, List.set_cons_zero, List.set_cons_succ]
    refine H.take (i := 5) (v := (.bool true)) (by simp only [List.getElem?_toArray, List.getElem?_cons_succ, List.getElem?_cons_zero]; rfl) (by kernel_rfl) rfl (by kernel_rfl) (by kernel_rfl) (by kernel_rfl) (fun _ _ _ h => h) (fun w _ => rfl) hS ?_
    try simp only [Act.put, List.setIfInBounds_toArray, List.set_cons_zero, List.set_cons_succ]
    refine H.take (i := 6) (v := (.bool true)) (by simp only [List.getElem?_toArray, List.getElem?_cons_succ, List.getElem?_cons_zero]; rfl) (by kernel_rfl) rfl (by kernel_rfl) (by kernel_rfl) (by kernel_rfl) (fun _ _ _ h => h) (fun w _ => rfl) hS ?_
    try simp only [Act.put, List.setIfInBounds_toArray, List.set_cons_zero, List.set_cons_succ]
    refine H.take (i := 7) (v := ?v7) (by simp only [List.getElem?_toArray, List.getElem?_cons_succ, List.getElem?_cons_zero]; rfl) (by kernel_rfl) rfl (by kernel_rfl) (by kernel_rfl) (by kernel_rfl) (fun _ _ _ h => h) ?h7 hS ?_
    case h7 => (intro w hw; go_simp; first | done | (with_reducible rfl))
    try simp only [Act.put, List.setIfInBounds_toArray, List.set_cons_zero, List.set_cons_succ]
    refine H.take (i := 8) (v := ?v8) (by simp only [List.getElem?_toArray, List.getElem?_cons_succ, List.getElem?_cons_zero]; rfl) (by kernel_rfl) rfl (by kernel_rfl) (by kernel_rfl) (by kernel_rfl) (fun _ _ _ h => h) ?h8 hS ?_
    case h8 => (intro w hw; go_simp; first | done | (with_reducible rfl))
    try simp only [Act.put, List.setIfInBounds_toArray, List.set_cons_zero, List.set_cons_succ]
    refine H.take (i := 9) (v := .bool true) (by simp only [List.getElem?_toArray, List.getElem?_cons_succ, List.getElem?_cons_zero]; rfl) (by kernel_rfl) rfl (by kernel_rfl) (by kernel_rfl) (by kernel_rfl) (fun _ _ _ h => h) ?h9 hS ?_
    case h9 => exact (by intro w hw; go_simp)
    try simp only [Act.put, List.setIfInBounds_toArray, List.set_cons_zero, List.set_cons_succ]
    refine H.take (i := 10) (v := (.bool true)) (by simp only [List.getElem?_toArray, List.getElem?_cons_succ, List.getElem?_cons_zero]; rfl) (by kernel_rfl) rfl (by kernel_rfl) (by kernel_rfl) (by kernel_rfl) (fun _ _ _ h => h) (fun w _ => rfl) hS ?_
    try simp only [Act.put, List.setIfInBounds_toArray, List.set_cons_zero, List.set_cons_succ]
    refine H.take (i := 11) (v := (.bool true)) (by simp only [List.getElem?_toArray, List.getElem?_cons_succ, List.getElem?_cons_zero]; rfl) (by kernel_rfl) rfl (by kernel_rfl) (by kernel_rfl) (by kernel_rfl) (fun _ _ _ h => h) (fun w _ => rfl) hS ?_
    try simp only [Act.put, List.setIfInBounds_toArray, List.set_cons_zero, List.set_cons_succ]
    refine H.take (i := 12) (v := ?v12) (by simp only [List.getElem?_toArray, List.getElem?_cons_succ, List.getElem?_cons_zero]; rfl) (by kernel_rfl) rfl (by kernel_rfl) (by kernel_rfl) (by kernel_rfl) (fun _ _ _ h => h) ?h12 hS ?_
    case h12 => (intro w hw; go_simp; first | done | (with_reducible rfl))
    try simp only [Act.put, List.setIfInBounds_toArray, List.set_cons_zero, List.set_cons_succ]
    refine H.take (i := 13) (v := ?v13) (by simp only [List.getElem?_toArray, List.getElem?_cons_succ, List.getElem?_cons_zero]; rfl) (by kernel_rfl) rfl (by kernel_rfl) (by kernel_rfl) (by kernel_rfl) (fun _ _ _ h => h) ?h13 hS ?_
    case h13 => (intro w hw; go_simp; first | done | (with_reducible rfl))
    try simp only [Act.put, List.setIfInBounds_toArray, List.set_cons_zero, List.set_cons_succ]
    refine H.take (i := 14) (v := .bool true) (by simp only [List.getElem?_toArray, List.getElem?_cons_succ, List.getElem?_cons_zero]; rfl) (by kernel_rfl) rfl (by kernel_rfl) (by kernel_rfl) (by kernel_rfl) (fun _ _ _ h => h) ?h14 hS ?_
    case h14 => exact (by intro w hw; go_simp)
    try simp only [Act.put, List.setIfInBounds_toArray, List.set_cons_zero, List.set_cons_succ]
    refine H.take (i := 15) (v := (.bool true)) (by simp only [List.getElem?_toArray, List.getElem?_cons_succ, List.getElem?_cons_zero]; rfl) (by kernel_rfl) rfl (by kernel_rfl) (by kernel_rfl) (by kernel_rfl) (fun _ _ _ h => h) (fun w _ => rfl) hS ?_
    try simp only [Act.put, List.setIfInBounds_toArray, List.set_cons_zero, List.set_cons_succ]
    refine H.take (i := 16) (v := (.bool true)) (by simp only [List.getElem?_toArray, List.getElem?_cons_succ, List.getElem?_cons_zero]; rfl) (by kernel_rfl) rfl (by kernel_rfl) (by kernel_rfl) (by kernel_rfl) (fun _ _ _ h => h) (fun w _ => rfl) hS ?_
    try simp only [Act.put, List.setIfInBounds_toArray, List.set_cons_zero, List.set_cons_succ]
    refine H.take (i := 17) (v := ?v17) (by simp only [List.getElem?_toArray, List.getElem?_cons_succ, List.getElem?_cons_zero]; rfl) (by kernel_rfl) rfl (by kernel_rfl) (by kernel_rfl) (by kernel_rfl) (fun _ _ _ h => h) ?h17 hS ?_
    case h17 => (intro w hw; go_simp; first | done | (with_reducible rfl))
    try simp only [Act.put, List.setIfInBounds_toArray, List.set_cons_zero, List.set_cons_succ]
    refine H.take (i := 18) (v := .pointer (some q)) (by simp only [List.getElem?_toArray, List.getElem?_cons_succ, List.getElem?_cons_zero]; rfl) (by kernel_rfl) rfl (by kernel_rfl) (by kernel_rfl) (by kernel_rfl) (fun _ _ _ h => h) ?h18 hS ?_
    case h18 => exact (by intro w hw; go_simp)
    try simp only [Act.put, List.setIfInBounds_toArray, List.set_cons_zero, List.set_cons_succ]
    refine H.take (i := 19) (v := ?v19) (by simp only [List.getElem?_toArray, List.getElem?_cons_succ, List.getElem?_cons_zero]; rfl) (by kernel_rfl) rfl (by kernel_rfl) (by kernel_rfl) (by kernel_rfl) (fun _ _ _ h => h) ?h19 hS ?_
    case h19 => (intro w hw; go_simp; first | done | (with_reducible rfl))
    try simp only [Act.put, List.setIfInBounds_toArray, List.set_cons_zero, List.set_cons_succ]
    refine H.take (i := 20) (v := ?v20) (by simp only [List.getElem?_toArray, List.getElem?_cons_succ, List.getElem?_cons_zero]; rfl) (by kernel_rfl) rfl (by kernel_rfl) (by kernel_rfl) (by kernel_rfl) (fun _ _ _ h => h) ?h20 hS ?_
    case h20 => (intro w hw; have c := hw.c9; go_simp; first | done | (with_reducible rfl))
    try simp only [Act.put, List.setIfInBounds_toArray, List.set_cons_zero, List.set_cons_succ]
    refine wpAnyH_ready (rs := [21]) (by kernel_rfl) (by simp) ?_
    refine AllReadyH.cons rfl (fun K hK => ?_) AllReadyH.nil
    go_simp
    refine (heldS (P0.out _) hS).mono ?_
    rintro e w21 ⟨rfl, hS21⟩
    refine hK.out _ _ hS21 (fun _ => ?_)
    clear hK K hS
    have hS := hS21
    clear hS21
    try simp only [Act.put, List.setIfInBounds_toArray, List.set_cons_zero, List.set_cons_succ]
    refine H.take (i := 22) (v := .bool true) (by simp only [List.getElem?_toArray, List.getElem?_cons_succ, List.getElem?_cons_zero]; rfl) (by kernel_rfl) rfl (by kernel_rfl) (by kernel_rfl) (by kernel_rfl) (fun _ _ _ h => h) ?h22 hS ?_
    case h22 => exact (by intro w hw; go_simp)
    try simp only [Act.put, List.setIfInBounds_toArray, List.set_cons_zero, List.set_cons_succ]
    refine H.take (i := 23) (v := (.bool true)) (by simp only [List.getElem?_toArray, List.getElem?_cons_succ, List.getElem?_cons_zero]; rfl) (by kernel_rfl) rfl (by kernel_rfl) (by kernel_rfl) (by kernel_rfl) (fun _ _ _ h => h) (fun w _ => rfl) hS ?_
    try simp only [Act.put, List.setIfInBounds_toArray, List.set_cons_zero, List.set_cons_succ]
    refine H.take (i := 24) (v := (.bool true)) (by simp only [List.getElem?_toArray, List.getElem?_cons_succ, List.getElem?_cons_zero]; rfl) (by kernel_rfl) rfl (by kernel_rfl) (by kernel_rfl) (by kernel_rfl) (fun _ _ _ h => h) (fun w _ => rfl) hS ?_
    try simp only [Act.put, List.setIfInBounds_toArray, List.set_cons_zero, List.set_cons_succ]
    refine H.take (i := 25) (v := .agg (M.cells exM)) (by simp only [List.getElem?_toArray, List.getElem?_cons_succ, List.getElem?_cons_zero]; rfl) (by kernel_rfl) rfl (by kernel_rfl) (by kernel_rfl) (by kernel_rfl) (fun _ _ _ h => h) ?h25 hS ?_
    case h25 => exact fun w hw => run_loadM (x := .tmp 1) rfl rfl (hw.m)
    try simp only [Act.put, List.setIfInBounds_toArray, List.set_cons_zero, List.set_cons_succ]
    refine wpAnyH_ready (rs := [26]) (by kernel_rfl) (by simp) ?_
    refine AllReadyH.cons rfl (fun K hK => ?_) AllReadyH.nil
    go_simp
    refine (heldA (P3.out _) hS).mono ?_
    rintro e w26 ⟨rfl, hS26⟩
    refine hK.out _ _ hS26 (fun _ => ?_)
    clear hK K hS
    have hS := hS26
    clear hS26
    try simp only [Act.put, List.setIfInBounds_toArray, List.set_cons_zero, List.set_cons_succ]
    refine H.take (i := 27) (v := (.bool true)) (by simp only [List.getElem?_toArray, List.getElem?_cons_succ, List.getElem?_cons_zero]; rfl) (by kernel_rfl) rfl (by kernel_rfl) (by kernel_rfl) (by kernel_rfl) (fun _ _ _ h => h) (fun w _ => rfl) hS ?_
    try simp only [Act.put, List.setIfInBounds_toArray, List.set_cons_zero, List.set_cons_succ]
    refine H.take (i := 28) (v := (.bool true)) (by simp only [List.getElem?_toArray, List.getElem?_cons_succ, List.getElem?_cons_zero]; rfl) (by kernel_rfl) rfl (by kernel_rfl) (by kernel_rfl) (by kernel_rfl) (fun _ _ _ h => h) (fun w _ => rfl) hS ?_
    try simp only [Act.put, List.setIfInBounds_toArray, List.set_cons_zero, List.set_cons_succ]
    refine H.take (i := 29) (v := ?v29) (by simp only [List.getElem?_toArray, List.getElem?_cons_succ, List.getElem?_cons_zero]; rfl) (by kernel_rfl) rfl (by kernel_rfl) (by kernel_rfl) (by kernel_rfl) (fun _ _ _ h => h) ?h29 hS ?_
    case h29 => (intro w hw; go_simp; first | done | (with_reducible rfl))
    try simp only [Act.put, List.setIfInBounds_toArray, List.set_cons_zero, List.set_cons_succ]
    refine H.take (i := 30) (v := .string hopB) (by simp only [List.getElem?_toArray, List.getElem?_cons_succ, List.getElem?_cons_zero]; rfl) (by kernel_rfl) rfl (by kernel_rfl) (by kernel_rfl) (by kernel_rfl) (fun _ _ _ h => h) ?h30 hS ?_
    case h30 => exact (by intro w hw; go_simp)
    try simp only [Act.put, List.setIfInBounds_toArray, List.set_cons_zero, List.set_cons_succ]
    refine wpAnyH_ready (rs := [31]) (by kernel_rfl) (by simp) ?_
    refine AllReadyH.cons rfl (fun K hK => ?_) AllReadyH.nil
    go_simp
    refine (heldS (P0.out _) hS).mono ?_
    rintro e w31 ⟨rfl, hS31⟩
    refine hK.out _ _ hS31 (fun _ => ?_)
    clear hK K hS
    have hS := hS31
    clear hS31
    try simp only [Act.put, List.setIfInBounds_toArray, List.set_cons_zero, List.set_cons_succ]
    refine H.take (i := 32) (v := .bool true) (by simp only [List.getElem?_toArray, List.getElem?_cons_succ, List.getElem?_cons_zero]; rfl) (by kernel_rfl) rfl (by kernel_rfl) (by kernel_rfl) (by kernel_rfl) (fun _ _ _ h => h) ?h32 hS ?_
    case h32 => exact (by intro w hw; go_simp)
    try simp only [Act.put, List.setIfInBounds_toArray, List.set_cons_zero, List.set_cons_succ]
    refine H.take (i := 33) (v := (.bool true)) (by simp only [List.getElem?_toArray, List.getElem?_cons_succ, List.getElem?_cons_zero]; rfl) (by kernel_rfl) rfl (by kernel_rfl) (by kernel_rfl) (by kernel_rfl) (fun _ _ _ h => h) (fun w _ => rfl) hS ?_
    try simp only [Act.put, List.setIfInBounds_toArray, List.set_cons_zero, List.set_cons_succ]
    refine H.take (i := 34) (v := (.bool true)) (by simp only [List.getElem?_toArray, List.getElem?_cons_succ, List.getElem?_cons_zero]; rfl) (by kernel_rfl) rfl (by kernel_rfl) (by kernel_rfl) (by kernel_rfl) (fun _ _ _ h => h) (fun w _ => rfl) hS ?_
    try simp only [Act.put, List.setIfInBounds_toArray, List.set_cons_zero, List.set_cons_succ]
    refine H.take (i := 35) (v := ?v35) (by simp only [List.getElem?_toArray, List.getElem?_cons_succ, List.getElem?_cons_zero]; rfl) (by kernel_rfl) rfl (by kernel_rfl) (by kernel_rfl) (by kernel_rfl) (fun _ _ _ h => h) ?h35 hS ?_
    case h35 => (intro w hw; go_simp; first | done | (with_reducible rfl))
    try simp only [Act.put, List.setIfInBounds_toArray, List.set_cons_zero, List.set_cons_succ]
    refine H.take (i := 36) (v := .int .u8 255) (by simp only [List.getElem?_toArray, List.getElem?_cons_succ, List.getElem?_cons_zero]; rfl) (by kernel_rfl) rfl (by kernel_rfl) (by kernel_rfl) (by kernel_rfl) (fun _ _ _ h => h) ?h36 hS ?_
    case h36 => exact (by intro w hw; go_simp)
    try simp only [Act.put, List.setIfInBounds_toArray, List.set_cons_zero, List.set_cons_succ]
    refine H.take (i := 37) (v := .bool true) (by simp only [List.getElem?_toArray, List.getElem?_cons_succ, List.getElem?_cons_zero]; rfl) (by kernel_rfl) rfl (by kernel_rfl) (by kernel_rfl) (by kernel_rfl) (fun _ _ _ h => h) ?h37 hS ?_
    case h37 => exact (by intro w hw; go_simp)
    try simp only [Act.put, List.setIfInBounds_toArray, List.set_cons_zero, List.set_cons_succ]
    refine H.take (i := 38) (v := (.bool true)) (by simp only [List.getElem?_toArray, List.getElem?_cons_succ, List.getElem?_cons_zero]; rfl) (by kernel_rfl) rfl (by kernel_rfl) (by kernel_rfl) (by kernel_rfl) (fun _ _ _ h => h) (fun w _ => rfl) hS ?_
    try simp only [Act.put, List.setIfInBounds_toArray, List.set_cons_zero, List.set_cons_succ]
    refine H.take (i := 39) (v := (.bool true)) (by simp only [List.getElem?_toArray, List.getElem?_cons_succ, List.getElem?_cons_zero]; rfl) (by kernel_rfl) rfl (by kernel_rfl) (by kernel_rfl) (by kernel_rfl) (fun _ _ _ h => h) (fun w _ => rfl) hS ?_
    try simp only [Act.put, List.setIfInBounds_toArray, List.set_cons_zero]
    refine wpAnyH_done (by kernel_rfl) ?_ _
    go_wp2
    go_ret
    exact ⟨rfl, hS.bel⟩
end Go.Proofs.Ythfdcmijciclkaa.Aw
