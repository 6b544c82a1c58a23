/-
  Whether a route of RIPng is bare: the program's answer and the document's. Condition: lists of at most 2^20 elements.
-/
import Derived.Test.YthfdcmijciclkaaOwn1
import Derived.Test.YthfdcmijciclkaaRBare1
import Derived.Deep.WholeRow
namespace Go.Proofs.Ythfdcmijciclkaa.Bare
open Go.ChangeShapes Go.WideShapes Go.ChangeAt Go.RowKit
open Go.Proofs.Ythfdcmijciclkaa.Ms
open Go.Proofs.Ythfdcmijciclkaa.Box
open Go.Proofs.Ythfdcmijciclkaa.Same
open Go.Proofs.Ythfdcmijciclkaa.SameP
open Go.Proofs.Ythfdcmijciclkaa.Hs
open Go.Proofs.Ythfdcmijciclkaa.RSame
open Go.Proofs.Ythfdcmijciclkaa.Own
open Go.Proofs.Ythfdcmijciclkaa.RBare
open Go.Proofs.Ythfdcmijciclkaa.Or
set_option linter.unusedVariables false
set_option maxRecDepth 100000

/-- Is a route of RIPng bare? -/
def bare2 (m : M) : Bool := M.same m { k2 m with kind := m.kind }
theorem own2_in {m : M} {w : World} (hm : m.In w) : M.In { k2 m with kind := m.kind } w := ⟨DRow.nil _ _, SRow.nil _ _, Nat.zero_le _, Nat.zero_le _⟩
theorem same_comm (a b : M) : M.same a b = M.same b a := by
  have ei : ∀ x y : Int, (x == y) = (y == x) := fun x y => by rw [Bool.eq_iff_iff, beq_iff_eq, beq_iff_eq]; exact eq_comm
  have es : ∀ x y : List UInt8, (x == y) = (y == x) := fun x y => by rw [Bool.eq_iff_iff, beq_iff_eq, beq_iff_eq]; exact eq_comm
  have ed : ∀ x y : List El, decide (x = y) = decide (y = x) := fun x y => decide_eq_decide.2 eq_comm
  unfold M.same M.flatE
  rw [ei a.kind, ei a.cmd, ei a.ver, es a.auth.toList, ei a.family, ei a.ae, es a.pfx.toList, ei a.plen, ei a.tag, es a.next.toList, ei a.metric, es a.id.toList, ei a.seq, ei a.seq2, ei a.interval, ei a.flags, ei a.hops, ei a.nonce, ei a.cost, es a.addr.toList, es a.orig.toList, ei a.typ, es a.data.toList, ed a.ll, ed a.sl]

set_option maxHeartbeats 1600000 in
set_option maxRecDepth 100000 in
theorem bare_any (m : M) (w : World) (hk : m.kind = 2) (hm : m.In w) :
    Calls Try.prog 26 #[.agg m.cells] w fun e w' => e = .returned (.bool (bare2 m)) ∧ Below w.heap.size w w' := by
  have HB := Lib.hid (show bare2 m = M.same m { k2 m with kind := m.kind } from rfl)
  have P := Lib.hid (fun w => own_2 m w hk)
  have PS := Lib.hid (fun w (hm : m.In w) => same_any m { k2 m with kind := m.kind } w hm (own2_in hm))
  generalize ({ k2 m with kind := m.kind } : M) = o at *
  clear hk
  have hb := Lib.hid (Bx.new w m)
  have bel := balloc (Below.refl _ w) (.cells m.cells 34)
  have hm1 := hm.below bel
  clear hm
  go_enter Try.func26, Try.ntmps26
  go_upto_region 1 with fail
  generalize w.alloc (.cells m.cells 34) = V at *
  go_wp2_with (first | (refine wpList_loadM (b := w.heap.size) (m := m) rfl _ rfl rfl hb.out ?_))
  refine (P.out _).mono ?_
  rintro e V ⟨rfl, hb1⟩
  have bel := bcall bel hb1
  have hb := Lib.hid (hb.out.below hb1)
  have hm1 := hm1.below hb1
  clear hb1 P
  go_upto_region 2 with (first | (refine wpList_storeM (m := M.zero) (m' := o) rfl _ _ rfl rfl rfl (heap_alloc_new _ _) ?_))
  change Code.wp _ _ _ _ ((V.alloc (.cells M.zero.cells 34)).setRow V.heap.size o.cells)
  rw [World.setRow_alloc_new]
  have B1 := Lib.hid (hb.out.old (.cells o.cells 34))
  have B2 := Lib.hid (Bx.new V o)
  have HB2 := Lib.hid (balloc bel (.cells o.cells 34))
  have HM := Lib.hid (hm1.below (balloc (Below.refl _ V) (.cells o.cells 34)))
  clear hb bel hm1
  generalize V.alloc (.cells o.cells 34) = V1 at *
  go_wp2_with (first | (refine st_yes (v := .agg (M.cells m)) (by rfl) rfl (run_loadM (x := .tmp 1) rfl rfl B1.out) ?_) | (refine st_yes (v := .agg (M.cells o)) (by rfl) rfl (run_loadM (x := .tmp 3) rfl rfl B2.out) ?_))
  refine (PS.out _ HM.out).mono ?_
  rintro e w3 ⟨rfl, hb3⟩
  have HB3 := Lib.hid (bcall HB2.out hb3)
  clear hb3
  go_wp2
  go_ret
  exact ⟨bool_eq (by rw [HB.out]), HB3.out⟩

theorem rbare_any (m : M) (w : World) (hk : m.kind = 2) (hm : m.In w) :
    Calls Try.prog 32 #[.agg m.cells] w fun e w' => e = .returned (.bool (bare2 m)) ∧ Below w.heap.size w w' := by
  rw [show bare2 m = M.same { k2 m with kind := 2 } m by rw [bare2, same_comm, hk]]; exact rbare_2 m w hk hm
end Go.Proofs.Ythfdcmijciclkaa.Bare
