/-
  Whether a message is bare: the document's answer, kinds 1 2 3 6. Condition: lists of at most 2^20 elements.
-/
import Derived.Test.YthfdcmijciclkaaRBare
namespace Go.Proofs.Ythfdcmijciclkaa.RBare
open Go.ChangeShapes Go.WideShapes Go.ChangeAt Go.RowKit
open Go.Proofs.Ythfdcmijciclkaa.Ms
open Go.Proofs.Ythfdcmijciclkaa.Box
open Go.Proofs.Ythfdcmijciclkaa.Same
open Go.Proofs.Ythfdcmijciclkaa.SameP
open Go.Proofs.Ythfdcmijciclkaa.Hs
open Go.Proofs.Ythfdcmijciclkaa.Or
open Go.Proofs.Ythfdcmijciclkaa.RSame
open Go.Proofs.Ythfdcmijciclkaa.Own
set_option linter.unusedVariables false
set_option maxRecDepth 100000

set_option maxHeartbeats 6400000 in
set_option maxRecDepth 100000 in
theorem rbare_2 (m : M) (w : World) (hk : m.kind = 2) (hm : m.In w) :
    Calls Try.prog 32 #[.agg m.cells] w fun e w' => e = .returned (.bool (M.same { k2 m with kind := 2 } m)) ∧ Below w.heap.size w w' := by
  have HK := Lib.hid hk
  clear hk
  go_enter Try.func32, Try.ntmps32
  go_upto_region 1 with fail
  have b0 := Bx.new w m
  have hsz := alloc_size w (.cells m.cells 34)
  have c0 := b0.cs.c0
  have c24 := b0.cs.c24
  clear b0
  obtain ⟨hS, bx⟩ := start2 w m (x0 m) M.zero.cells rfl
  have hz := heap_alloc_new (w.alloc (.cells m.cells 34)) (.cells M.zero.cells 34)
  generalize w.alloc (.cells m.cells 34) = V0 at *
  rw [hsz] at hz
  go_upto_region 2 with (first | (refine wpList_built rfl 34 _ rfl (x0 m).cells (by kernel_rfl) ?_) | (change wpList _ _ _ _ _ (V0.alloc (.cells M.zero.cells 34)); refine wpList_storeM (b := w.heap.size + 1) (m := M.zero) (m' := x0 m) rfl _ _ rfl (by first | rfl | (rw [← hsz]; rfl)) rfl hz ?_))
  clear hz c0 c24
  generalize (V0.alloc (.cells M.zero.cells 34)).setRow (w.heap.size + 1) (x0 m).cells = V at *
  clear hsz
  have c0 := hS.1.cs.c0
  rw [HK.out] at c0
  have C := Lib.hid hS.1.cs
  have c1 := C.out.c1
  have c6 := C.out.c6
  have c7 := C.out.c7
  have c8 := C.out.c8
  have c9 := C.out.c9
  have c10 := C.out.c10
  have HX := Lib.hid bx
  have HS := Lib.hid hS
  clear bx hS
  go_upto_region 31 with (first | (refine wpList_built rfl 34 _ rfl (M.cells { k2 m with kind := 2 }) (by kernel_rfl) ?_) | (refine wpList_storeM (b := w.heap.size + 1) (m' := { k2 m with kind := 2 }) rfl _ _ rfl rfl rfl HX.out ?_))
  clear C c0 c1 c6 c7 c8 c9 c10
  have hS : S1 w m (V.setRow (w.heap.size + 1) (M.cells { k2 m with kind := 2 })) := ⟨HS.out.1.row (by omega) _, below_setRow HS.out.2 (by omega) _⟩
  have bx := HX.out.put (m' := { k2 m with kind := 2 })
  clear HX HS
  generalize V.setRow (w.heap.size + 1) (M.cells { k2 m with kind := 2 }) = V1 at *
  have HX := Lib.hid bx
  have HS := Lib.hid hS
  clear bx hS
  go_wp2_with (first | (refine wpList_loadM (b := w.heap.size + 1) (m := { k2 m with kind := 2 }) rfl _ rfl rfl HX.out ?_) | (refine wpList_loadM (b := w.heap.size) (m := m) rfl _ rfl rfl HS.out.1 ?_))
  refine (rsame_any ({ k2 m with kind := 2 }) m _ ⟨DRow.nil _ _, SRow.nil _ _, (Nat.zero_le _), (Nat.zero_le _)⟩ (hm.below HS.out.2)).mono ?_
  rintro e w' ⟨rfl, hb⟩
  replace hb := bcall HS.out.2 hb
  clear HX HS
  go_wp2
  go_ret
  exact ⟨rfl, hb⟩
end Go.Proofs.Ythfdcmijciclkaa.RBare
