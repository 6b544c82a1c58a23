/-
  Whether a route request is bare: the program's answer and the document's. Condition: lists of at most 2^20 elements.
-/
import Derived.Test.YtflmhpimkfjdpaaOwn3
import Derived.Test.YtflmhpimkfjdpaaRBare3
import Derived.Test.YtflmhpimkfjdpaaQ1
import Derived.Deep.WholeRow
namespace Go.Proofs.Ytflmhpimkfjdpaa.B3
open Go.ChangeShapes Go.WideShapes Go.ChangeAt Go.RowKit
open Go.Proofs.Ytflmhpimkfjdpaa.Ms
open Go.Proofs.Ytflmhpimkfjdpaa.Box
open Go.Proofs.Ytflmhpimkfjdpaa.Same
open Go.Proofs.Ytflmhpimkfjdpaa.SameP
open Go.Proofs.Ytflmhpimkfjdpaa.Hs
open Go.Proofs.Ytflmhpimkfjdpaa.RSame
open Go.Proofs.Ytflmhpimkfjdpaa.Own
open Go.Proofs.Ytflmhpimkfjdpaa.RBare
open Go.Proofs.Ytflmhpimkfjdpaa.Or
set_option linter.unusedVariables false

theorem own3_in {m : M} {w : World} (hm : m.In w) : M.In { k3 m with kind := m.kind } w := ⟨DRow.nil _ _, hm.s, Nat.zero_le _, hm.sl⟩
theorem same_comm (a b : M) : M.same a b = M.same b a := by
  have ei : ∀ x y : Int, (x == y) = (y == x) := fun x y => by rw [Bool.eq_iff_iff, beq_iff_eq, beq_iff_eq]; exact eq_comm
  have es : ∀ x y : List UInt8, (x == y) = (y == x) := fun x y => by rw [Bool.eq_iff_iff, beq_iff_eq, beq_iff_eq]; exact eq_comm
  have ed : ∀ x y : List El, decide (x = y) = decide (y = x) := fun x y => decide_eq_decide.2 eq_comm
  unfold M.same M.flatE
  rw [ei a.kind, ei a.cmd, ei a.ver, es a.auth.toList, ei a.family, ei a.ae, es a.pfx.toList, ei a.plen, ei a.tag, es a.next.toList, ei a.metric, es a.id.toList, ei a.seq, ei a.seq2, ei a.interval, ei a.flags, ei a.hops, ei a.nonce, ei a.cost, es a.addr.toList, es a.orig.toList, ei a.typ, es a.data.toList, ed a.ll, ed a.sl]

set_option maxHeartbeats 1600000 in
set_option maxRecDepth 100000 in
theorem bare_any (m : M) (w : World) (hk : m.kind = 3) (hm : m.In w) :
    Calls Try.prog 19 #[.agg m.cells] w fun e w' => e = .returned (.bool (Q1.bare m)) ∧ Below w.heap.size w w' := by
  have HB := Lib.hid (show Q1.bare m = M.same m { k3 m with kind := m.kind } from rfl)
  have P := Lib.hid (fun w => own_3 m w hk)
  have PS := Lib.hid (fun w (hm : m.In w) => same_any m { k3 m with kind := m.kind } w hm (own3_in hm))
  generalize ({ k3 m with kind := m.kind } : M) = o at *
  clear hk
  have hb := Lib.hid (Bx.new w m)
  have bel := balloc (Below.refl _ w) (.cells m.cells 25)
  have hm1 := hm.below bel
  clear hm
  go_enter Try.func19, Try.ntmps19
  go_upto_region 1 with fail
  generalize w.alloc (.cells m.cells 25) = V at *
  go_wp2_with (first | (refine wpList_loadM (b := w.heap.size) (m := m) rfl _ rfl rfl hb.out ?_))
  refine (P.out _).mono ?_
  rintro e V ⟨rfl, hb1⟩
  have bel := bcall bel hb1
  have hb := Lib.hid (hb.out.below hb1)
  have hm1 := hm1.below hb1
  clear hb1 P
  go_upto_region 2 with (first | (refine wpList_storeM (m := M.zero) (m' := o) rfl _ _ rfl rfl rfl (heap_alloc_new _ _) ?_))
  change Code.wp _ _ _ _ ((V.alloc (.cells M.zero.cells 25)).setRow V.heap.size o.cells)
  rw [World.setRow_alloc_new]
  have B1 := Lib.hid (hb.out.old (.cells o.cells 25))
  have B2 := Lib.hid (Bx.new V o)
  have HB2 := Lib.hid (balloc bel (.cells o.cells 25))
  have HM := Lib.hid (hm1.below (balloc (Below.refl _ V) (.cells o.cells 25)))
  clear hb bel hm1
  generalize V.alloc (.cells o.cells 25) = V1 at *
  go_wp2_with (first | (refine st_yes (v := .agg (M.cells m)) (by rfl) rfl (run_loadM (x := .tmp 1) rfl rfl B1.out) ?_) | (refine st_yes (v := .agg (M.cells o)) (by rfl) rfl (run_loadM (x := .tmp 3) rfl rfl B2.out) ?_))
  refine (PS.out _ HM.out).mono ?_
  rintro e w3 ⟨rfl, hb3⟩
  have HB3 := Lib.hid (bcall HB2.out hb3)
  clear hb3
  go_wp2
  go_ret
  exact ⟨bool_eq (by rw [HB.out]), HB3.out⟩

theorem rbare_any (m : M) (w : World) (hk : m.kind = 3) (hm : m.In w) :
    Calls Try.prog 22 #[.agg m.cells] w fun e w' => e = .returned (.bool (Q1.bare m)) ∧ Below w.heap.size w w' := by
  rw [show Q1.bare m = M.same { k3 m with kind := m.kind } m by rw [Q1.bare, same_comm]]; exact rbare_3 m w hk hm
end Go.Proofs.Ytflmhpimkfjdpaa.B3
