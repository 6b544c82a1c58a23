/-
  MsgChanged, cases 18 to 22: a message with one field changed is another one.
-/
import Derived.Test.YtnjaoccienijbaaOpen
import Derived.Test.YtnjaoccienijbaaAw
import Derived.Test.YtnjaoccienijbaaChg
namespace Go.Proofs.Ytnjaoccienijbaa.Chg
open Go.ChangeShapes Go.WideShapes Go.ChangeAt Go.RowKit
open Go.Proofs.Ytnjaoccienijbaa.Ms
open Go.Proofs.Ytnjaoccienijbaa.Box
open Go.Proofs.Ytnjaoccienijbaa.Same
open Go.Proofs.Ytnjaoccienijbaa.SameP
open Go.Proofs.Ytnjaoccienijbaa.Hs
open Go.Proofs.Ytnjaoccienijbaa.Or
open Go.Proofs.Ytnjaoccienijbaa.Bare
open Go.Proofs.Ytnjaoccienijbaa.Few
open Go.Proofs.Ytnjaoccienijbaa.All
open Go.Proofs.Ytnjaoccienijbaa.Aw
open Go.Proofs.Ytnjaoccienijbaa.Open
set_option linter.unusedVariables false

set_option maxHeartbeats 6400000 in
set_option maxRecDepth 100000 in
theorem ch_18 (m : M) (q : Int) (w : World) (hk : q % 25 = 18) (h0 : 0 ≤ q) (h1 : q < 256) (hd : DRow w m.la m.ll) (hs : SRow w m.sa m.sl) (hf : fewB m = true) :
    Calls Try.prog 5 #[.agg m.cells, .int .u8 q] w fun e w' => e = .returned (.bool true) ∧ Below w.heap.size w w' := by
  have PF := Lib.hid (fun W (h : Below w.heap.size w W) => few_any m W (hd.below h) (hs.below h))
  rw [hf] at PF
  have IN := Lib.hid (fun W (h : Below w.heap.size w W) => show m.In W from ⟨hd.below h, hs.below h, by have := few_facts hf; omega, by have := few_facts hf; omega⟩)
  have b0 := Bx.new w m
  have bel := balloc (Below.refl _ w) (.cells m.cells 25)
  have hd0 := Lib.hid (show DRow w m.la m.ll ∧ SRow w m.sa m.sl ∧ fewB m = true from ⟨hd, hs, hf⟩)
  clear hd hs hf
  have HK := Lib.hid hk
  clear hk
  go_enter Try.func5, Try.ntmps5
  go_upto_region 1 with fail
  generalize w.alloc (.cells m.cells 25) = V at *
  have B1 := Lib.hid b0
  clear b0
  go_wp2_with (first | (refine wpList_loadM (b := w.heap.size) (m := m) rfl _ rfl rfl B1.out ?_))
  refine (PF.out _ bel).mono ?_
  rintro e w1 ⟨rfl, hb1⟩
  have bel := bcall bel hb1
  have B1 := Lib.hid (B1.out.below hb1)
  have B0 := Lib.hid B1.out.lt
  clear hb1 PF
  go_upto_region 4 with (first | (refine wpList_loadM (b := w.heap.size) (m := m) rfl _ rfl rfl B1.out ?_) | (change wpList _ _ _ _ _ (w1.alloc (.cells M.zero.cells 25)); refine wpList_storeM (b := w1.heap.size) (m := M.zero) (m' := m) rfl _ _ rfl rfl rfl (heap_alloc_new w1 _) ?_))
  rw [World.setRow_alloc_new]
  have bx := Bx.new w1 m
  have B1 := Lib.hid (B1.out.old (.cells m.cells 25))
  have hle : w.heap.size ≠ w1.heap.size := by
    have h2 := B0.out
    omega
  have bel := balloc bel (.cells m.cells 25)
  have hge : w.heap.size ≤ w1.heap.size := by have := B0.out; omega
  generalize w1.alloc (.cells m.cells 25) = w2 at *
  generalize w1.heap.size = g at *
  have I1 := Lib.hid (IN.out _ bel)
  have cx := bx.cs.c18
  have fx := bx.frozen 18
  have BX := Lib.hid bx
  have hk := HK.out
  clear bx HK IN B0
  go_upto_region 54 with fail
  clear cx fx hk
  have BX := Lib.hid (BX.out.set (i := 18) (v := (.int .i64 (bits .xor .i64 m.cost 1))) (m' := { m with cost := bits .xor .i64 m.cost 1 }) rfl)
  have B1 := Lib.hid (B1.out.off (p := ⟨g, 18, none⟩) hle (.int .i64 (bits .xor .i64 m.cost 1)))
  have NE := Lib.hid (show M.same m { m with cost := bits .xor .i64 m.cost 1 } = false by simp [M.same, M.flatE, flip_ne m.cost])
  have bel := bel.setCell (p := ⟨g, 18, none⟩) hge (.int .i64 (bits .xor .i64 m.cost 1))
  have I1 := Lib.hid (in_of hd0.out bel)
  have I2 := Lib.hid (show M.In { m with cost := bits .xor .i64 m.cost 1 } _ from ⟨I1.out.d, I1.out.s, I1.out.dl, I1.out.sl⟩)
  clear hd0
  generalize w2.setCell ⟨g, 18, none⟩ (.int .i64 (bits .xor .i64 m.cost 1)) = w3 at *
  have SM := Lib.hid (same_refl m)
  go_wp2_with fail
  refine (awake_any _).mono ?_
  rintro e w4 ⟨rfl, hb4⟩
  have bel := bcall bel hb4
  have B1 := Lib.hid (B1.out.below hb4)
  have BX := Lib.hid (BX.out.below hb4)
  have I1 := Lib.hid (I1.out.below hb4)
  have I2 := Lib.hid (I2.out.below hb4)
  clear hb4
  go_wp2_with (first | (refine st_yes (v := .agg (M.cells m)) (by rfl) rfl (run_loadM (x := .tmp 2) rfl rfl B1.out) ?_) | (refine st_yes (v := .agg (M.cells { m with cost := bits .xor .i64 m.cost 1 })) (by rfl) rfl (run_loadM (x := .tmp 5) rfl rfl BX.out) ?_))
  refine (same_any m m _ I1.out I1.out).mono ?_
  rw [SM.out]
  rintro e w5 ⟨rfl, hb4⟩
  have bel := bcall bel hb4
  have B1 := Lib.hid (B1.out.below hb4)
  have BX := Lib.hid (BX.out.below hb4)
  have I1 := Lib.hid (I1.out.below hb4)
  have I2 := Lib.hid (I2.out.below hb4)
  clear hb4
  go_wp2_with (first | (refine st_yes (v := .agg (M.cells m)) (by rfl) rfl (run_loadM (x := .tmp 2) rfl rfl B1.out) ?_) | (refine st_yes (v := .agg (M.cells { m with cost := bits .xor .i64 m.cost 1 })) (by rfl) rfl (run_loadM (x := .tmp 5) rfl rfl BX.out) ?_))
  refine (same_any m { m with cost := bits .xor .i64 m.cost 1 } _ I1.out I2.out).mono ?_
  rw [NE.out]
  rintro e w6 ⟨rfl, hb4⟩
  have bel := bcall bel hb4
  have B1 := Lib.hid (B1.out.below hb4)
  have BX := Lib.hid (BX.out.below hb4)
  have I1 := Lib.hid (I1.out.below hb4)
  have I2 := Lib.hid (I2.out.below hb4)
  clear hb4
  go_wp2_with (first | (refine st_yes (v := .agg (M.cells m)) (by rfl) rfl (run_loadM (x := .tmp 2) rfl rfl B1.out) ?_) | (refine st_yes (v := .agg (M.cells { m with cost := bits .xor .i64 m.cost 1 })) (by rfl) rfl (run_loadM (x := .tmp 5) rfl rfl BX.out) ?_))
  refine (same_any { m with cost := bits .xor .i64 m.cost 1 } m _ I2.out I1.out).mono ?_
  rw [same_comm, NE.out]
  rintro e w7 ⟨rfl, hb4⟩
  have bel := bcall bel hb4
  clear hb4
  go_wp2
  go_ret
  exact ⟨rfl, bel⟩

set_option maxHeartbeats 6400000 in
set_option maxRecDepth 100000 in
theorem ch_19 (m : M) (q : Int) (w : World) (hk : q % 25 = 19) (h0 : 0 ≤ q) (h1 : q < 256) (hd : DRow w m.la m.ll) (hs : SRow w m.sa m.sl) (hf : fewB m = true) (hz : m.addr.size ≤ 140737488355328) :
    Calls Try.prog 5 #[.agg m.cells, .int .u8 q] w fun e w' => e = .returned (.bool true) ∧ Below w.heap.size w w' := by
  have PF := Lib.hid (fun W (h : Below w.heap.size w W) => few_any m W (hd.below h) (hs.below h))
  rw [hf] at PF
  have IN := Lib.hid (fun W (h : Below w.heap.size w W) => show m.In W from ⟨hd.below h, hs.below h, by have := few_facts hf; omega, by have := few_facts hf; omega⟩)
  have b0 := Bx.new w m
  have bel := balloc (Below.refl _ w) (.cells m.cells 25)
  have hd0 := Lib.hid (show DRow w m.la m.ll ∧ SRow w m.sa m.sl ∧ fewB m = true from ⟨hd, hs, hf⟩)
  clear hd hs hf
  have HK := Lib.hid hk
  clear hk
  go_enter Try.func5, Try.ntmps5
  go_upto_region 1 with fail
  generalize w.alloc (.cells m.cells 25) = V at *
  have B1 := Lib.hid b0
  clear b0
  go_wp2_with (first | (refine wpList_loadM (b := w.heap.size) (m := m) rfl _ rfl rfl B1.out ?_))
  refine (PF.out _ bel).mono ?_
  rintro e w1 ⟨rfl, hb1⟩
  have bel := bcall bel hb1
  have B1 := Lib.hid (B1.out.below hb1)
  have B0 := Lib.hid B1.out.lt
  clear hb1 PF
  go_upto_region 4 with (first | (refine wpList_loadM (b := w.heap.size) (m := m) rfl _ rfl rfl B1.out ?_) | (change wpList _ _ _ _ _ (w1.alloc (.cells M.zero.cells 25)); refine wpList_storeM (b := w1.heap.size) (m := M.zero) (m' := m) rfl _ _ rfl rfl rfl (heap_alloc_new w1 _) ?_))
  rw [World.setRow_alloc_new]
  have bx := Bx.new w1 m
  have B1 := Lib.hid (B1.out.old (.cells m.cells 25))
  have hle : w.heap.size ≠ w1.heap.size := by
    have h2 := B0.out
    omega
  have bel := balloc bel (.cells m.cells 25)
  have hge : w.heap.size ≤ w1.heap.size := by have := B0.out; omega
  generalize w1.alloc (.cells m.cells 25) = w2 at *
  generalize w1.heap.size = g at *
  have I1 := Lib.hid (IN.out _ bel)
  have cx := bx.cs.c19
  have fx := bx.frozen 19
  have BX := Lib.hid bx
  have hk := HK.out
  clear bx HK IN B0
  go_upto_region 54 with fail
  clear cx fx hk
  have BX := Lib.hid (BX.out.set (i := 19) (v := (.string (m.addr ++ ⟨#[120]⟩))) (m' := { m with addr := m.addr ++ ⟨#[120]⟩ }) rfl)
  have B1 := Lib.hid (B1.out.off (p := ⟨g, 19, none⟩) hle (.string (m.addr ++ ⟨#[120]⟩)))
  have NE := Lib.hid (show M.same m { m with addr := m.addr ++ ⟨#[120]⟩ } = false by simp [M.same, M.flatE, more_ne m.addr])
  have bel := bel.setCell (p := ⟨g, 19, none⟩) hge (.string (m.addr ++ ⟨#[120]⟩))
  have I1 := Lib.hid (in_of hd0.out bel)
  have I2 := Lib.hid (show M.In { m with addr := m.addr ++ ⟨#[120]⟩ } _ from ⟨I1.out.d, I1.out.s, I1.out.dl, I1.out.sl⟩)
  clear hd0
  generalize w2.setCell ⟨g, 19, none⟩ (.string (m.addr ++ ⟨#[120]⟩)) = w3 at *
  have SM := Lib.hid (same_refl m)
  go_wp2_with fail
  refine (awake_any _).mono ?_
  rintro e w4 ⟨rfl, hb4⟩
  have bel := bcall bel hb4
  have B1 := Lib.hid (B1.out.below hb4)
  have BX := Lib.hid (BX.out.below hb4)
  have I1 := Lib.hid (I1.out.below hb4)
  have I2 := Lib.hid (I2.out.below hb4)
  clear hb4
  go_wp2_with (first | (refine st_yes (v := .agg (M.cells m)) (by rfl) rfl (run_loadM (x := .tmp 2) rfl rfl B1.out) ?_) | (refine st_yes (v := .agg (M.cells { m with addr := m.addr ++ ⟨#[120]⟩ })) (by rfl) rfl (run_loadM (x := .tmp 5) rfl rfl BX.out) ?_))
  refine (same_any m m _ I1.out I1.out).mono ?_
  rw [SM.out]
  rintro e w5 ⟨rfl, hb4⟩
  have bel := bcall bel hb4
  have B1 := Lib.hid (B1.out.below hb4)
  have BX := Lib.hid (BX.out.below hb4)
  have I1 := Lib.hid (I1.out.below hb4)
  have I2 := Lib.hid (I2.out.below hb4)
  clear hb4
  go_wp2_with (first | (refine st_yes (v := .agg (M.cells m)) (by rfl) rfl (run_loadM (x := .tmp 2) rfl rfl B1.out) ?_) | (refine st_yes (v := .agg (M.cells { m with addr := m.addr ++ ⟨#[120]⟩ })) (by rfl) rfl (run_loadM (x := .tmp 5) rfl rfl BX.out) ?_))
  refine (same_any m { m with addr := m.addr ++ ⟨#[120]⟩ } _ I1.out I2.out).mono ?_
  rw [NE.out]
  rintro e w6 ⟨rfl, hb4⟩
  have bel := bcall bel hb4
  have B1 := Lib.hid (B1.out.below hb4)
  have BX := Lib.hid (BX.out.below hb4)
  have I1 := Lib.hid (I1.out.below hb4)
  have I2 := Lib.hid (I2.out.below hb4)
  clear hb4
  go_wp2_with (first | (refine st_yes (v := .agg (M.cells m)) (by rfl) rfl (run_loadM (x := .tmp 2) rfl rfl B1.out) ?_) | (refine st_yes (v := .agg (M.cells { m with addr := m.addr ++ ⟨#[120]⟩ })) (by rfl) rfl (run_loadM (x := .tmp 5) rfl rfl BX.out) ?_))
  refine (same_any { m with addr := m.addr ++ ⟨#[120]⟩ } m _ I2.out I1.out).mono ?_
  rw [same_comm, NE.out]
  rintro e w7 ⟨rfl, hb4⟩
  have bel := bcall bel hb4
  clear hb4
  go_wp2
  go_ret
  exact ⟨rfl, bel⟩

set_option maxHeartbeats 6400000 in
set_option maxRecDepth 100000 in
theorem ch_20 (m : M) (q : Int) (w : World) (hk : q % 25 = 20) (h0 : 0 ≤ q) (h1 : q < 256) (hd : DRow w m.la m.ll) (hs : SRow w m.sa m.sl) (hf : fewB m = true) (hz : m.orig.size ≤ 140737488355328) :
    Calls Try.prog 5 #[.agg m.cells, .int .u8 q] w fun e w' => e = .returned (.bool true) ∧ Below w.heap.size w w' := by
  have PF := Lib.hid (fun W (h : Below w.heap.size w W) => few_any m W (hd.below h) (hs.below h))
  rw [hf] at PF
  have IN := Lib.hid (fun W (h : Below w.heap.size w W) => show m.In W from ⟨hd.below h, hs.below h, by have := few_facts hf; omega, by have := few_facts hf; omega⟩)
  have b0 := Bx.new w m
  have bel := balloc (Below.refl _ w) (.cells m.cells 25)
  have hd0 := Lib.hid (show DRow w m.la m.ll ∧ SRow w m.sa m.sl ∧ fewB m = true from ⟨hd, hs, hf⟩)
  clear hd hs hf
  have HK := Lib.hid hk
  clear hk
  go_enter Try.func5, Try.ntmps5
  go_upto_region 1 with fail
  generalize w.alloc (.cells m.cells 25) = V at *
  have B1 := Lib.hid b0
  clear b0
  go_wp2_with (first | (refine wpList_loadM (b := w.heap.size) (m := m) rfl _ rfl rfl B1.out ?_))
  refine (PF.out _ bel).mono ?_
  rintro e w1 ⟨rfl, hb1⟩
  have bel := bcall bel hb1
  have B1 := Lib.hid (B1.out.below hb1)
  have B0 := Lib.hid B1.out.lt
  clear hb1 PF
  go_upto_region 4 with (first | (refine wpList_loadM (b := w.heap.size) (m := m) rfl _ rfl rfl B1.out ?_) | (change wpList _ _ _ _ _ (w1.alloc (.cells M.zero.cells 25)); refine wpList_storeM (b := w1.heap.size) (m := M.zero) (m' := m) rfl _ _ rfl rfl rfl (heap_alloc_new w1 _) ?_))
  rw [World.setRow_alloc_new]
  have bx := Bx.new w1 m
  have B1 := Lib.hid (B1.out.old (.cells m.cells 25))
  have hle : w.heap.size ≠ w1.heap.size := by
    have h2 := B0.out
    omega
  have bel := balloc bel (.cells m.cells 25)
  have hge : w.heap.size ≤ w1.heap.size := by have := B0.out; omega
  generalize w1.alloc (.cells m.cells 25) = w2 at *
  generalize w1.heap.size = g at *
  have I1 := Lib.hid (IN.out _ bel)
  have cx := bx.cs.c20
  have fx := bx.frozen 20
  have BX := Lib.hid bx
  have hk := HK.out
  clear bx HK IN B0
  go_upto_region 54 with fail
  clear cx fx hk
  have BX := Lib.hid (BX.out.set (i := 20) (v := (.string (m.orig ++ ⟨#[120]⟩))) (m' := { m with orig := m.orig ++ ⟨#[120]⟩ }) rfl)
  have B1 := Lib.hid (B1.out.off (p := ⟨g, 20, none⟩) hle (.string (m.orig ++ ⟨#[120]⟩)))
  have NE := Lib.hid (show M.same m { m with orig := m.orig ++ ⟨#[120]⟩ } = false by simp [M.same, M.flatE, more_ne m.orig])
  have bel := bel.setCell (p := ⟨g, 20, none⟩) hge (.string (m.orig ++ ⟨#[120]⟩))
  have I1 := Lib.hid (in_of hd0.out bel)
  have I2 := Lib.hid (show M.In { m with orig := m.orig ++ ⟨#[120]⟩ } _ from ⟨I1.out.d, I1.out.s, I1.out.dl, I1.out.sl⟩)
  clear hd0
  generalize w2.setCell ⟨g, 20, none⟩ (.string (m.orig ++ ⟨#[120]⟩)) = w3 at *
  have SM := Lib.hid (same_refl m)
  go_wp2_with fail
  refine (awake_any _).mono ?_
  rintro e w4 ⟨rfl, hb4⟩
  have bel := bcall bel hb4
  have B1 := Lib.hid (B1.out.below hb4)
  have BX := Lib.hid (BX.out.below hb4)
  have I1 := Lib.hid (I1.out.below hb4)
  have I2 := Lib.hid (I2.out.below hb4)
  clear hb4
  go_wp2_with (first | (refine st_yes (v := .agg (M.cells m)) (by rfl) rfl (run_loadM (x := .tmp 2) rfl rfl B1.out) ?_) | (refine st_yes (v := .agg (M.cells { m with orig := m.orig ++ ⟨#[120]⟩ })) (by rfl) rfl (run_loadM (x := .tmp 5) rfl rfl BX.out) ?_))
  refine (same_any m m _ I1.out I1.out).mono ?_
  rw [SM.out]
  rintro e w5 ⟨rfl, hb4⟩
  have bel := bcall bel hb4
  have B1 := Lib.hid (B1.out.below hb4)
  have BX := Lib.hid (BX.out.below hb4)
  have I1 := Lib.hid (I1.out.below hb4)
  have I2 := Lib.hid (I2.out.below hb4)
  clear hb4
  go_wp2_with (first | (refine st_yes (v := .agg (M.cells m)) (by rfl) rfl (run_loadM (x := .tmp 2) rfl rfl B1.out) ?_) | (refine st_yes (v := .agg (M.cells { m with orig := m.orig ++ ⟨#[120]⟩ })) (by rfl) rfl (run_loadM (x := .tmp 5) rfl rfl BX.out) ?_))
  refine (same_any m { m with orig := m.orig ++ ⟨#[120]⟩ } _ I1.out I2.out).mono ?_
  rw [NE.out]
  rintro e w6 ⟨rfl, hb4⟩
  have bel := bcall bel hb4
  have B1 := Lib.hid (B1.out.below hb4)
  have BX := Lib.hid (BX.out.below hb4)
  have I1 := Lib.hid (I1.out.below hb4)
  have I2 := Lib.hid (I2.out.below hb4)
  clear hb4
  go_wp2_with (first | (refine st_yes (v := .agg (M.cells m)) (by rfl) rfl (run_loadM (x := .tmp 2) rfl rfl B1.out) ?_) | (refine st_yes (v := .agg (M.cells { m with orig := m.orig ++ ⟨#[120]⟩ })) (by rfl) rfl (run_loadM (x := .tmp 5) rfl rfl BX.out) ?_))
  refine (same_any { m with orig := m.orig ++ ⟨#[120]⟩ } m _ I2.out I1.out).mono ?_
  rw [same_comm, NE.out]
  rintro e w7 ⟨rfl, hb4⟩
  have bel := bcall bel hb4
  clear hb4
  go_wp2
  go_ret
  exact ⟨rfl, bel⟩

set_option maxHeartbeats 6400000 in
set_option maxRecDepth 100000 in
theorem ch_21 (m : M) (q : Int) (w : World) (hk : q % 25 = 21) (h0 : 0 ≤ q) (h1 : q < 256) (hd : DRow w m.la m.ll) (hs : SRow w m.sa m.sl) (hf : fewB m = true) :
    Calls Try.prog 5 #[.agg m.cells, .int .u8 q] w fun e w' => e = .returned (.bool true) ∧ Below w.heap.size w w' := by
  have PF := Lib.hid (fun W (h : Below w.heap.size w W) => few_any m W (hd.below h) (hs.below h))
  rw [hf] at PF
  have IN := Lib.hid (fun W (h : Below w.heap.size w W) => show m.In W from ⟨hd.below h, hs.below h, by have := few_facts hf; omega, by have := few_facts hf; omega⟩)
  have b0 := Bx.new w m
  have bel := balloc (Below.refl _ w) (.cells m.cells 25)
  have hd0 := Lib.hid (show DRow w m.la m.ll ∧ SRow w m.sa m.sl ∧ fewB m = true from ⟨hd, hs, hf⟩)
  clear hd hs hf
  have HK := Lib.hid hk
  clear hk
  go_enter Try.func5, Try.ntmps5
  go_upto_region 1 with fail
  generalize w.alloc (.cells m.cells 25) = V at *
  have B1 := Lib.hid b0
  clear b0
  go_wp2_with (first | (refine wpList_loadM (b := w.heap.size) (m := m) rfl _ rfl rfl B1.out ?_))
  refine (PF.out _ bel).mono ?_
  rintro e w1 ⟨rfl, hb1⟩
  have bel := bcall bel hb1
  have B1 := Lib.hid (B1.out.below hb1)
  have B0 := Lib.hid B1.out.lt
  clear hb1 PF
  go_upto_region 4 with (first | (refine wpList_loadM (b := w.heap.size) (m := m) rfl _ rfl rfl B1.out ?_) | (change wpList _ _ _ _ _ (w1.alloc (.cells M.zero.cells 25)); refine wpList_storeM (b := w1.heap.size) (m := M.zero) (m' := m) rfl _ _ rfl rfl rfl (heap_alloc_new w1 _) ?_))
  rw [World.setRow_alloc_new]
  have bx := Bx.new w1 m
  have B1 := Lib.hid (B1.out.old (.cells m.cells 25))
  have hle : w.heap.size ≠ w1.heap.size := by
    have h2 := B0.out
    omega
  have bel := balloc bel (.cells m.cells 25)
  have hge : w.heap.size ≤ w1.heap.size := by have := B0.out; omega
  generalize w1.alloc (.cells m.cells 25) = w2 at *
  generalize w1.heap.size = g at *
  have I1 := Lib.hid (IN.out _ bel)
  have cx := bx.cs.c22
  have fx := bx.frozen 22
  have BX := Lib.hid bx
  have hk := HK.out
  clear bx HK IN B0
  go_upto_region 54 with fail
  clear cx fx hk
  have BX := Lib.hid (BX.out.set (i := 22) (v := (.int .i64 (bits .xor .i64 m.typ 1))) (m' := { m with typ := bits .xor .i64 m.typ 1 }) rfl)
  have B1 := Lib.hid (B1.out.off (p := ⟨g, 22, none⟩) hle (.int .i64 (bits .xor .i64 m.typ 1)))
  have NE := Lib.hid (show M.same m { m with typ := bits .xor .i64 m.typ 1 } = false by simp [M.same, M.flatE, flip_ne m.typ])
  have bel := bel.setCell (p := ⟨g, 22, none⟩) hge (.int .i64 (bits .xor .i64 m.typ 1))
  have I1 := Lib.hid (in_of hd0.out bel)
  have I2 := Lib.hid (show M.In { m with typ := bits .xor .i64 m.typ 1 } _ from ⟨I1.out.d, I1.out.s, I1.out.dl, I1.out.sl⟩)
  clear hd0
  generalize w2.setCell ⟨g, 22, none⟩ (.int .i64 (bits .xor .i64 m.typ 1)) = w3 at *
  have SM := Lib.hid (same_refl m)
  go_wp2_with fail
  refine (awake_any _).mono ?_
  rintro e w4 ⟨rfl, hb4⟩
  have bel := bcall bel hb4
  have B1 := Lib.hid (B1.out.below hb4)
  have BX := Lib.hid (BX.out.below hb4)
  have I1 := Lib.hid (I1.out.below hb4)
  have I2 := Lib.hid (I2.out.below hb4)
  clear hb4
  go_wp2_with (first | (refine st_yes (v := .agg (M.cells m)) (by rfl) rfl (run_loadM (x := .tmp 2) rfl rfl B1.out) ?_) | (refine st_yes (v := .agg (M.cells { m with typ := bits .xor .i64 m.typ 1 })) (by rfl) rfl (run_loadM (x := .tmp 5) rfl rfl BX.out) ?_))
  refine (same_any m m _ I1.out I1.out).mono ?_
  rw [SM.out]
  rintro e w5 ⟨rfl, hb4⟩
  have bel := bcall bel hb4
  have B1 := Lib.hid (B1.out.below hb4)
  have BX := Lib.hid (BX.out.below hb4)
  have I1 := Lib.hid (I1.out.below hb4)
  have I2 := Lib.hid (I2.out.below hb4)
  clear hb4
  go_wp2_with (first | (refine st_yes (v := .agg (M.cells m)) (by rfl) rfl (run_loadM (x := .tmp 2) rfl rfl B1.out) ?_) | (refine st_yes (v := .agg (M.cells { m with typ := bits .xor .i64 m.typ 1 })) (by rfl) rfl (run_loadM (x := .tmp 5) rfl rfl BX.out) ?_))
  refine (same_any m { m with typ := bits .xor .i64 m.typ 1 } _ I1.out I2.out).mono ?_
  rw [NE.out]
  rintro e w6 ⟨rfl, hb4⟩
  have bel := bcall bel hb4
  have B1 := Lib.hid (B1.out.below hb4)
  have BX := Lib.hid (BX.out.below hb4)
  have I1 := Lib.hid (I1.out.below hb4)
  have I2 := Lib.hid (I2.out.below hb4)
  clear hb4
  go_wp2_with (first | (refine st_yes (v := .agg (M.cells m)) (by rfl) rfl (run_loadM (x := .tmp 2) rfl rfl B1.out) ?_) | (refine st_yes (v := .agg (M.cells { m with typ := bits .xor .i64 m.typ 1 })) (by rfl) rfl (run_loadM (x := .tmp 5) rfl rfl BX.out) ?_))
  refine (same_any { m with typ := bits .xor .i64 m.typ 1 } m _ I2.out I1.out).mono ?_
  rw [same_comm, NE.out]
  rintro e w7 ⟨rfl, hb4⟩
  have bel := bcall bel hb4
  clear hb4
  go_wp2
  go_ret
  exact ⟨rfl, bel⟩

set_option maxHeartbeats 6400000 in
set_option maxRecDepth 100000 in
theorem ch_22 (m : M) (q : Int) (w : World) (hk : q % 25 = 22) (h0 : 0 ≤ q) (h1 : q < 256) (hd : DRow w m.la m.ll) (hs : SRow w m.sa m.sl) (hf : fewB m = true) (hz : m.data.size ≤ 140737488355328) :
    Calls Try.prog 5 #[.agg m.cells, .int .u8 q] w fun e w' => e = .returned (.bool true) ∧ Below w.heap.size w w' := by
  have PF := Lib.hid (fun W (h : Below w.heap.size w W) => few_any m W (hd.below h) (hs.below h))
  rw [hf] at PF
  have IN := Lib.hid (fun W (h : Below w.heap.size w W) => show m.In W from ⟨hd.below h, hs.below h, by have := few_facts hf; omega, by have := few_facts hf; omega⟩)
  have b0 := Bx.new w m
  have bel := balloc (Below.refl _ w) (.cells m.cells 25)
  have hd0 := Lib.hid (show DRow w m.la m.ll ∧ SRow w m.sa m.sl ∧ fewB m = true from ⟨hd, hs, hf⟩)
  clear hd hs hf
  have HK := Lib.hid hk
  clear hk
  go_enter Try.func5, Try.ntmps5
  go_upto_region 1 with fail
  generalize w.alloc (.cells m.cells 25) = V at *
  have B1 := Lib.hid b0
  clear b0
  go_wp2_with (first | (refine wpList_loadM (b := w.heap.size) (m := m) rfl _ rfl rfl B1.out ?_))
  refine (PF.out _ bel).mono ?_
  rintro e w1 ⟨rfl, hb1⟩
  have bel := bcall bel hb1
  have B1 := Lib.hid (B1.out.below hb1)
  have B0 := Lib.hid B1.out.lt
  clear hb1 PF
  go_upto_region 4 with (first | (refine wpList_loadM (b := w.heap.size) (m := m) rfl _ rfl rfl B1.out ?_) | (change wpList _ _ _ _ _ (w1.alloc (.cells M.zero.cells 25)); refine wpList_storeM (b := w1.heap.size) (m := M.zero) (m' := m) rfl _ _ rfl rfl rfl (heap_alloc_new w1 _) ?_))
  rw [World.setRow_alloc_new]
  have bx := Bx.new w1 m
  have B1 := Lib.hid (B1.out.old (.cells m.cells 25))
  have hle : w.heap.size ≠ w1.heap.size := by
    have h2 := B0.out
    omega
  have bel := balloc bel (.cells m.cells 25)
  have hge : w.heap.size ≤ w1.heap.size := by have := B0.out; omega
  generalize w1.alloc (.cells m.cells 25) = w2 at *
  generalize w1.heap.size = g at *
  have I1 := Lib.hid (IN.out _ bel)
  have cx := bx.cs.c23
  have fx := bx.frozen 23
  have BX := Lib.hid bx
  have hk := HK.out
  clear bx HK IN B0
  go_upto_region 54 with fail
  clear cx fx hk
  have BX := Lib.hid (BX.out.set (i := 23) (v := (.string (m.data ++ ⟨#[120]⟩))) (m' := { m with data := m.data ++ ⟨#[120]⟩ }) rfl)
  have B1 := Lib.hid (B1.out.off (p := ⟨g, 23, none⟩) hle (.string (m.data ++ ⟨#[120]⟩)))
  have NE := Lib.hid (show M.same m { m with data := m.data ++ ⟨#[120]⟩ } = false by simp [M.same, M.flatE, more_ne m.data])
  have bel := bel.setCell (p := ⟨g, 23, none⟩) hge (.string (m.data ++ ⟨#[120]⟩))
  have I1 := Lib.hid (in_of hd0.out bel)
  have I2 := Lib.hid (show M.In { m with data := m.data ++ ⟨#[120]⟩ } _ from ⟨I1.out.d, I1.out.s, I1.out.dl, I1.out.sl⟩)
  clear hd0
  generalize w2.setCell ⟨g, 23, none⟩ (.string (m.data ++ ⟨#[120]⟩)) = w3 at *
  have SM := Lib.hid (same_refl m)
  go_wp2_with fail
  refine (awake_any _).mono ?_
  rintro e w4 ⟨rfl, hb4⟩
  have bel := bcall bel hb4
  have B1 := Lib.hid (B1.out.below hb4)
  have BX := Lib.hid (BX.out.below hb4)
  have I1 := Lib.hid (I1.out.below hb4)
  have I2 := Lib.hid (I2.out.below hb4)
  clear hb4
  go_wp2_with (first | (refine st_yes (v := .agg (M.cells m)) (by rfl) rfl (run_loadM (x := .tmp 2) rfl rfl B1.out) ?_) | (refine st_yes (v := .agg (M.cells { m with data := m.data ++ ⟨#[120]⟩ })) (by rfl) rfl (run_loadM (x := .tmp 5) rfl rfl BX.out) ?_))
  refine (same_any m m _ I1.out I1.out).mono ?_
  rw [SM.out]
  rintro e w5 ⟨rfl, hb4⟩
  have bel := bcall bel hb4
  have B1 := Lib.hid (B1.out.below hb4)
  have BX := Lib.hid (BX.out.below hb4)
  have I1 := Lib.hid (I1.out.below hb4)
  have I2 := Lib.hid (I2.out.below hb4)
  clear hb4
  go_wp2_with (first | (refine st_yes (v := .agg (M.cells m)) (by rfl) rfl (run_loadM (x := .tmp 2) rfl rfl B1.out) ?_) | (refine st_yes (v := .agg (M.cells { m with data := m.data ++ ⟨#[120]⟩ })) (by rfl) rfl (run_loadM (x := .tmp 5) rfl rfl BX.out) ?_))
  refine (same_any m { m with data := m.data ++ ⟨#[120]⟩ } _ I1.out I2.out).mono ?_
  rw [NE.out]
  rintro e w6 ⟨rfl, hb4⟩
  have bel := bcall bel hb4
  have B1 := Lib.hid (B1.out.below hb4)
  have BX := Lib.hid (BX.out.below hb4)
  have I1 := Lib.hid (I1.out.below hb4)
  have I2 := Lib.hid (I2.out.below hb4)
  clear hb4
  go_wp2_with (first | (refine st_yes (v := .agg (M.cells m)) (by rfl) rfl (run_loadM (x := .tmp 2) rfl rfl B1.out) ?_) | (refine st_yes (v := .agg (M.cells { m with data := m.data ++ ⟨#[120]⟩ })) (by rfl) rfl (run_loadM (x := .tmp 5) rfl rfl BX.out) ?_))
  refine (same_any { m with data := m.data ++ ⟨#[120]⟩ } m _ I2.out I1.out).mono ?_
  rw [same_comm, NE.out]
  rintro e w7 ⟨rfl, hb4⟩
  have bel := bcall bel hb4
  clear hb4
  go_wp2
  go_ret
  exact ⟨rfl, bel⟩

end Go.Proofs.Ytnjaoccienijbaa.Chg
