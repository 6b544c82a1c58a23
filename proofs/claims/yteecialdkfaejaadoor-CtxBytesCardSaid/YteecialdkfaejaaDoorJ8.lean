/-
  The document's Get: the request that a TLV says. Conditions: a type of its own, at most 100000 bytes.
-/
import Derived.Test.YteecialdkfaejaaDoorJ6
import Derived.Test.YteecialdkfaejaaDoorS6
import Derived.Test.YteecialdkfaejaaDoorF2
namespace Go.Proofs.YteecialdkfaejaaDoor.J8
open Go.ChangeShapes Go.WideShapes Go.ChangeAt Go.RowKit
open Go.Proofs.YteecialdkfaejaaDoor.Ms
open Go.Proofs.YteecialdkfaejaaDoor.Box
open Go.Proofs.YteecialdkfaejaaDoor.S1
open Go.Proofs.YteecialdkfaejaaDoor.Nu
open Go.Proofs.YteecialdkfaejaaDoor.J1
open Go.Proofs.YteecialdkfaejaaDoor.J2
open Go.Proofs.YteecialdkfaejaaDoor.J6 (lst_cell)
open Go.Proofs.YteecialdkfaejaaDoor.An
open Go.Proofs.YteecialdkfaejaaDoor.F1 (bt bt_nn bt_lt)
open Go.Proofs.YteecialdkfaejaaDoor.F2 (idx sl_m sl_l)
open Go.Proofs.YteecialdkfaejaaDoor.Hx (conv8)
open Go.Proofs.YteecialdkfaejaaDoor.Pre (leastN)
open Go.Proofs.YteecialdkfaejaaDoor.Oct (fitsB)
open Go.Proofs.YteecialdkfaejaaDoor.Tl (cellsT)
open Go.Proofs.YteecialdkfaejaaDoor.Bk (Bk wpList_builtK alloc_size)
open Go.Proofs.YteecialdkfaejaaDoor.Hs
set_option linter.unusedVariables false
set_option maxRecDepth 100000
set_option maxRecDepth 100000
theorem rnum2 (s : ByteArray) (a b : Nat) (h : b = a + 2) (w : World) : Calls Tryd.prog 59 #[.string (s.extract a b)] w fun e w' => e = .returned (.int .i64 (num2 s a)) ∧ w' = w := by
  subst h
  have := rnum_ext s a (a + 2) w (by omega)
  rw [Nat.add_sub_cancel_left] at this
  exact this
/-- What stands: the TLV, the answer's block (a struct of the type T). -/
structure D (T : TypeId) (zs : Array Value) (w0 W : World) (a : Int) (s : ByteArray) (t : Int) : Prop where
  tl : Bk 29 W w0.heap.size (cellsT (a, (s, t)))
  res : Bk T W (w0.heap.size + 1) zs
  bel : Below w0.heap.size w0 W
section
variable {T : TypeId} {zs : Array Value} {w0 W W' : World} {a t : Int} {s : ByteArray}
theorem D.call (d : D T zs w0 W a s t) (hb : Below W.heap.size W W') : D T zs w0 W' a s t := ⟨d.tl.below hb, d.res.below hb, d.bel.trans (hb.mono d.bel.size)⟩
theorem D.drew (d : D T zs w0 W a s t) : D T zs w0 W.drew a s t := ⟨d.tl, d.res, d.bel.drew⟩
theorem D.row {g : Nat} (d : D T zs w0 W a s t) (hg : w0.heap.size + 1 < g) (cs : Array Value) : D T zs w0 (W.setRow g cs) a s t := ⟨d.tl.row (by omega) _, d.res.row (by omega) _, Box.below_setRow d.bel (by omega) _⟩
theorem D.cell {g : Nat} (d : D T zs w0 W a s t) (hg : w0.heap.size + 1 < g) (i : Nat) (v : Value) : D T zs w0 (W.setCell ⟨g, i, none⟩ v) a s t := ⟨d.tl.off (by show w0.heap.size ≠ g; omega) _, d.res.off (by show w0.heap.size + 1 ≠ g; omega) _, d.bel.setCell (p := ⟨g, i, none⟩) (by show w0.heap.size ≤ g; omega) _⟩
theorem D.start (w : World) (a t : Int) (s : ByteArray) : D T zs w ((w.alloc (.cells (cellsT (a, (s, t))) 29)).alloc (.cells zs T)) a s t := by
  have X0 := Bk.Bk.new T (w.alloc (.cells (cellsT (a, (s, t))) 29)) zs
  rw [alloc_size] at X0
  exact ⟨(Bk.Bk.new _ w _).old _, X0, balloc (balloc (Below.refl _ w) _) _⟩
end
theorem kind_ten {d : ByteArray} (h : 14 ≤ d.size) : kindB (hdJ 10 d) = (!decide (bt d 0 = 0) && !decide (bt d 4 = 0)) := by
  rw [kind_10]
  have e : seqB (hd10 d) = (!decide (bt d 0 = 0) && (fitsB (num2 d 2) 2 && (decide ((d.extract 6 14).size = 8) && (decide (1 ≤ bt d 4) && fitsB (bt d 4) 1)))) := rfl
  have b0 := bt_nn d 4
  have b1 := bt_lt d 4
  rw [e, num2_fits (by omega), decide_eq_true (ext_size d 6 14 h), fits1 b0 b1, Bool.true_and, Bool.true_and, Bool.and_true]
  congr 1
  by_cases h0 : bt d 4 = 0
  · rw [decide_eq_true h0, h0]; rfl
  · rw [decide_eq_false h0, decide_eq_true (by omega)]; rfl
end Go.Proofs.YteecialdkfaejaaDoor.J8
