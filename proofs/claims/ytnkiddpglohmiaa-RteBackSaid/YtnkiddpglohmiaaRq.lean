/-
  What came in, opened: an entry by value is its six fields. The document's example. No conditions.
-/
import Derived.Test.YtnkiddpglohmiaaRz
import Derived.Deep.Slices
import Derived.Deep.Fields
import Derived.ChangeSame
import Derived.Carry
namespace Go.Proofs.Ytnkiddpglohmiaa.Rte
open Go.ChangeShapes Go.WideShapes Go.ChangeAt Go.RowKit Go.Deep
open Go.Proofs.Ytnkiddpglohmiaa.Cur
open Go.Proofs.Ytnkiddpglohmiaa.Oct
open Go.Proofs.Ytnkiddpglohmiaa.Bk
set_option linter.unusedVariables false
set_option maxRecDepth 100000

section
variable {H : Type} {enc : TypeId × Value → H} {W : World}
/-- A struct whose fields take one cell each reads field by field: field j's reading is that of cell j. -/
theorem each_field {t : TypeId} {fds : Array Field} (ht : Try.prog.underlying t = some (.struct fds)) (hone : oneCellFields Try.prog fds = true) {fuel : Nat} {cs : List Value} {x : DataW H × List MemPlace}
    (h : DataW.trod enc Try.prog W 0 (fun _ => true) true fuel t cs = some x) :
    cs.length = Try.prog.cellsOf t ∧ ∃ n, ∀ (j : Nat) (f : Field), fds[j]? = some f → ∃ y, DataW.trod enc Try.prog W 0 (fun _ => true) true n f.type ((cs.drop j).take 1) = some y := by
  obtain ⟨xs, n, _, _, hlen, hxl, hf⟩ := DataW.trod_struct ht h
  refine ⟨hlen, n, fun j f hj => ?_⟩
  have h1 := hf j f hj
  rw [(hone_of hone j f hj).1, (hone_of hone j f hj).2] at h1
  have hjl : j < xs.length := by rw [hxl]; exact (Array.getElem?_eq_some_iff.1 hj).1
  exact ⟨xs[j], h1.trans (List.getElem?_eq_getElem hjl)⟩
theorem cellsE : Try.prog.cellsOf 23 = 6 := by kernel_rfl

theorem open_entry {fuel : Nat} {cs : List Value} {x : DataW H × List MemPlace} (h : DataW.trod enc Try.prog W 0 (fun _ => true) true fuel 23 cs = some x) :
    ∃ e : E, cs = e.cells.toList ∧ OkE e := by
  obtain ⟨hlen, n, go⟩ := each_field Try.underlying23 (by kernel_rfl) h
  rw [cellsE] at hlen
  clear h
  match cs, hlen with
  | [c0, c1, c2, c3, c4, c5], _ =>
    obtain ⟨y0, h0⟩ := go 0 _ rfl
    obtain ⟨k0, e0, _, _⟩ := DataW.trod_int Try.underlying3 (show DataW.trod enc Try.prog W 0 (fun _ => true) true n 3 [c0] = some y0 from h0)
    obtain rfl := (List.cons.inj e0).1
    obtain ⟨y1, h1⟩ := go 1 _ rfl
    obtain ⟨k1, e1, _, _⟩ := DataW.trod_int Try.underlying3 (show DataW.trod enc Try.prog W 0 (fun _ => true) true n 3 [c1] = some y1 from h1)
    obtain rfl := (List.cons.inj e1).1
    obtain ⟨y2, h2⟩ := go 2 _ rfl
    obtain ⟨k2, e2, _, z2⟩ := DataW.trod_string Try.underlying9 (show DataW.trod enc Try.prog W 0 (fun _ => true) true n 9 [c2] = some y2 from h2)
    obtain rfl := (List.cons.inj e2).1
    obtain ⟨y3, h3⟩ := go 3 _ rfl
    obtain ⟨k3, e3, _, z3⟩ := DataW.trod_string Try.underlying9 (show DataW.trod enc Try.prog W 0 (fun _ => true) true n 9 [c3] = some y3 from h3)
    obtain rfl := (List.cons.inj e3).1
    obtain ⟨y4, h4⟩ := go 4 _ rfl
    obtain ⟨k4, e4, _, z4⟩ := DataW.trod_string Try.underlying9 (show DataW.trod enc Try.prog W 0 (fun _ => true) true n 9 [c4] = some y4 from h4)
    obtain rfl := (List.cons.inj e4).1
    obtain ⟨y5, h5⟩ := go 5 _ rfl
    obtain ⟨k5, e5, _, _⟩ := DataW.trod_int Try.underlying3 (show DataW.trod enc Try.prog W 0 (fun _ => true) true n 3 [c5] = some y5 from h5)
    obtain rfl := (List.cons.inj e5).1
    exact ⟨⟨k0, k1, k2, k3, k4, k5⟩, rfl, z2, z3, z4⟩

theorem by_entry {base : Nat} {v : Value} {d : DataW H} {p : List MemPlace} (hv : Value.okWide Try.prog W .any base 23 v) (h : DataW.Trod enc Try.prog W 0 (fun _ => true) true 23 v d p) :
    ∃ e : E, v = .agg e.cells ∧ OkE e := by
  obtain ⟨cs, rfl, hsz⟩ := okWide_struct Try.underlying23 hv
  obtain ⟨fuel, hf⟩ := h
  obtain ⟨e, hm, hok⟩ := open_entry hf
  have : cs = e.cells := Array.ext' hm
  subst this
  exact ⟨e, rfl, hok⟩
theorem laidOut : laidOutB Try.prog = true := by kernel_rfl
theorem again {t : TypeId} (hr : Try.prog.readableRec t = true) (hrow : t < Try.prog.types.size) {W' : World} {v : Value} {d : DataW H} {ps : List MemPlace}
    (h : DataW.Trod enc Try.prog W 0 (fun _ => true) true t v d ps) (hb : Below W.heap.size W W') (hlt : ∀ x ∈ ps, x.block < W.heap.size) :
    DataW.Trod enc Try.prog W' 0 (fun b => decide (b < W.heap.size)) true t v d ps := Below.trod laidOut hr hrow h hb hlt
end


def exA : ByteArray := ⟨(List.replicate 16 (0 : UInt8)).toArray⟩
def exE : E := ⟨0, 0, exA, ⟨#[]⟩, ⟨#[]⟩, 16⟩
def exS : ByteArray := ⟨#[0, 0, 0, 0, 0, 0, 0, 0, 0, 0, 0, 0, 0, 0, 0, 0, 0, 0, 0, 16]⟩
theorem ex_put : putE exE = exS := by decide +kernel
theorem ex_ok : okE exE = true := by decide +kernel
theorem ex_size : exS.size = 20 := rfl
theorem ex_cut : exS.extract 0 19 = ⟨(List.replicate 19 (0 : UInt8)).toArray⟩ := by decide +kernel
theorem ex_19 : ∀ h : 19 < exS.size, (exS[19]'h).toNat = 16 := fun h => rfl

set_option maxHeartbeats 1600000 in
theorem awake_any (w : World) :
    Calls Try.prog 5 #[] w fun e w' => e = .returned (.bool true) ∧ Below w.heap.size w w' := by
  obtain ⟨i0, hi, hz0, hz1, hz2⟩ := info_parts info5
  go_enter Try.func5, Try.ntmps5
  go_wp2_with (at_make; refine wpList_make_full _ rfl _ _ 30 rfl w.heap.size 5 i0 (.int .u8 0) 1 Try.underlying30 hi hz0 hz1 _ _ _ _ 16 rfl rfl rfl rfl (by rw [hz2]; omega) (by unfold maxLen; omega) (by simp) ?_)
  intro w0 hown hgrow
  have hc : Sem.run Try.prog (convert 30 9 (.slice (some ⟨w.heap.size, 0, none⟩) 16 16)) w0 = .ok (.string exA) w0 := conv_row w0 w.heap.size 16 w.heap.size (List.replicate 16 0) 16 (by simp) (by
    have e : cellsL (List.replicate 16 (0 : UInt8)) = (madeCells #[Value.int .u8 0] 16).toList := by
      rw [toList_madeCells_one]; simp [cellsL]
    rw [e]; exact hown)
  have HB0 : Below w.heap.size w w0 := (Below.refl w.heap.size w).grown hgrow (Nat.le_refl _) (fun k hk => by cases hk)
  clear hown hgrow
  go_wp2_with (first | (refine wpList_builtK rfl 23 _ rfl exE.cells (by kernel_rfl) ?_))
  refine (put_any exE _ ⟨by unfold maxLen; decide, by unfold maxLen; decide, by unfold maxLen; decide⟩).mono ?_
  rintro e w1 ⟨rfl, hb1⟩
  replace hb1 := HB0.trans (hb1.mono HB0.size)
  rw [ex_put, ex_ok]
  clear hc
  go_upto_region 2 with fail
  have h2 := ex_19
  have h3 := sl_h exS 19 19 rfl (by decide)
  rw [ex_cut] at h3
  have hsz := ex_size
  generalize exS = t at *
  obtain ⟨w2, hrun, hown, hgrow⟩ := run_make_full (P := Try.prog) w1.drew w1.heap.size 30 5 i0 (.int .u8 0) 1 Try.underlying30 hi hz0 hz1 .i64 .i64 19 (by rw [hz2]; omega) (by unfold maxLen; omega) (Nat.le_refl _)
  have hc := conv_row w2 w1.heap.size 19 w1.heap.size (List.replicate 19 0) 19 (by simp) (by
    have e : cellsL (List.replicate 19 (0 : UInt8)) = (madeCells #[Value.int .u8 0] 19).toList := by
      rw [toList_madeCells_one]; simp [cellsL]
    rw [e]; exact hown)
  have HB : Hid (Below w.heap.size w w2) := Lib.hid (hb1.trans (((Below.refl w1.heap.size w1).drew.grown hgrow (Nat.le_refl _) (fun k hk => by cases hk)).mono hb1.size))
  clear hown hgrow hi hz0 hz1 hz2 hb1 HB0
  have hrun2 : Sem.run Try.prog (Instr.makeSlice 30 (.int .i64 19) (.int .i64 19)) w1.drew = .ok (.slice (some ⟨w1.heap.size, 0, none⟩) 19 19) w2 := hrun
  clear hrun
  go_region_with fail
  all_goals
    go_wp2
    go_ret
    exact ⟨rfl, HB.out⟩
end Go.Proofs.Ytnkiddpglohmiaa.Rte
