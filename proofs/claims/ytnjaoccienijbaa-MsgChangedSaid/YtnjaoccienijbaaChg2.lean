/-
  MsgChanged, cases 6 to 11: a message with one field changed is another one.
-/
import Derived.Test.YtnjaoccienijbaaOpen
import Derived.Test.YtnjaoccienijbaaAw
import Derived.Test.YtnjaoccienijbaaChg
namespace Go.Proofs.Ytnjaoccienijbaa.Chg
open Go.ChangeShapes Go.WideShapes Go.ChangeAt Go.RowKit
open Go.Proofs.Ytnjaoccienijbaa.Ms
open Go.Proofs.Ytnjaoccienijbaa.Box
open Go.Proofs.Ytnjaoccienijbaa.Same
open Go.Proofs.Ytnjaoccienijbaa.SameP
open Go.Proofs.Ytnjaoccienijbaa.Hs
open Go.Proofs.Ytnjaoccienijbaa.Or
open Go.Proofs.Ytnjaoccienijbaa.Bare
open Go.Proofs.Ytnjaoccienijbaa.Few
open Go.Proofs.Ytnjaoccienijbaa.All
open Go.Proofs.Ytnjaoccienijbaa.Aw
open Go.Proofs.Ytnjaoccienijbaa.Open
set_option linter.unusedVariables false

set_option maxHeartbeats 6400000 in
set_option maxRecDepth 100000 in
theorem ch_6 (m : M) (q : Int) (w : World) (hk : q % 25 = 6) (h0 : 0 ≤ q) (h1 : q < 256) (hd : DRow w m.la m.ll) (hs : SRow w m.sa m.sl) (hf : fewB m = true) (hz : m.pfx.size ≤ 140737488355328) :
    Calls Try.prog 5 #[.agg m.cells, .int .u8 q] w fun e w' => e = .returned (.bool true) ∧ Below w.heap.size w w' := by
  have PF := Lib.hid (fun W (h : Below w.heap.size w W) => few_any m W (hd.below h) (hs.below h))
  rw [hf] at PF
  have IN := Lib.hid (fun W (h : Below w.heap.size w W) => show m.In W from ⟨hd.below h, hs.below h, by have := few_facts hf; omega, by have := few_facts hf; omega⟩)
  have b0 := Bx.new w m
  have bel := balloc (Below.refl _ w) (.cells m.cells 25)
  have hd0 := Lib.hid (show DRow w m.la m.ll ∧ SRow w m.sa m.sl ∧ fewB m = true from ⟨hd, hs, hf⟩)
  clear hd hs hf
  have HK := Lib.hid hk
  clear hk
  go_enter Try.func5, Try.ntmps5
  go_upto_region 1 with fail
  generalize w.alloc (.cells m.cells 25) = V at *
  have B1 := Lib.hid b0
  clear b0
  go_wp2_with (first | (refine wpList_loadM (b := w.heap.size) (m := m) rfl _ rfl rfl B1.out ?_))
  refine (PF.out _ bel).mono ?_
  rintro e w1 ⟨rfl, hb1⟩
  have bel := bcall bel hb1
  have B1 := Lib.hid (B1.out.below hb1)
  have B0 := Lib.hid B1.out.lt
  clear hb1 PF
  go_upto_region 4 with (first | (refine wpList_loadM (b := w.heap.size) (m := m) rfl _ rfl rfl B1.out ?_) | (change wpList _ _ _ _ _ (w1.alloc (.cells M.zero.cells 25)); refine wpList_storeM (b := w1.heap.size) (m := M.zero) (m' := m) rfl _ _ rfl rfl rfl (heap_alloc_new w1 _) ?_))
  rw [World.setRow_alloc_new]
  have bx := Bx.new w1 m
  have B1 := Lib.hid (B1.out.old (.cells m.cells 25))
  have hle : w.heap.size ≠ w1.heap.size := by
    have h2 := B0.out
    omega
  have bel := balloc bel (.cells m.cells 25)
  have hge : w.heap.size ≤ w1.heap.size := by have := B0.out; omega
  generalize w1.alloc (.cells m.cells 25) = w2 at *
  generalize w1.heap.size = g at *
  have I1 := Lib.hid (IN.out _ bel)
  have cx := bx.cs.c6
  have fx := bx.frozen 6
  have BX := Lib.hid bx
  have hk := HK.out
  clear bx HK IN B0
  go_upto_region 54 with fail
  clear cx fx hk
  have BX := Lib.hid (BX.out.set (i := 6) (v := (.string (m.pfx ++ ⟨#[120]⟩))) (m' := { m with pfx := m.pfx ++ ⟨#[120]⟩ }) rfl)
  have B1 := Lib.hid (B1.out.off (p := ⟨g, 6, none⟩) hle (.string (m.pfx ++ ⟨#[120]⟩)))
  have NE := Lib.hid (show M.same m { m with pfx := m.pfx ++ ⟨#[120]⟩ } = false by simp [M.same, M.flatE, more_ne m.pfx])
  have bel := bel.setCell (p := ⟨g, 6, none⟩) hge (.string (m.pfx ++ ⟨#[120]⟩))
  have I1 := Lib.hid (in_of hd0.out bel)
  have I2 := Lib.hid (show M.In { m with pfx := m.pfx ++ ⟨#[120]⟩ } _ from ⟨I1.out.d, I1.out.s, I1.out.dl, I1.out.sl⟩)
  clear hd0
  generalize w2.setCell ⟨g, 6, none⟩ (.string (m.pfx ++ ⟨#[120]⟩)) = w3 at *
  have SM := Lib.hid (same_refl m)
  go_wp2_with fail
  refine (awake_any _).mono ?_
  rintro e w4 ⟨rfl, hb4⟩
  have bel := bcall bel hb4
  have B1 := Lib.hid (B1.out.below hb4)
  have BX := Lib.hid (BX.out.below hb4)
  have I1 := Lib.hid (I1.out.below hb4)
  have I2 := Lib.hid (I2.out.below hb4)
  clear hb4
  go_wp2_with (first | (refine st_yes (v := .agg (M.cells m)) (by rfl) rfl (run_loadM (x := .tmp 2) rfl rfl B1.out) ?_) | (refine st_yes (v := .agg (M.cells { m with pfx := m.pfx ++ ⟨#[120]⟩ })) (by rfl) rfl (run_loadM (x := .tmp 5) rfl rfl BX.out) ?_))
  refine (same_any m m _ I1.out I1.out).mono ?_
  rw [SM.out]
  rintro e w5 ⟨rfl, hb4⟩
  have bel := bcall bel hb4
  have B1 := Lib.hid (B1.out.below hb4)
  have BX := Lib.hid (BX.out.below hb4)
  have I1 := Lib.hid (I1.out.below hb4)
  have I2 := Lib.hid (I2.out.below hb4)
  clear hb4
  go_wp2_with (first | (refine st_yes (v := .agg (M.cells m)) (by rfl) rfl (run_loadM (x := .tmp 2) rfl rfl B1.out) ?_) | (refine st_yes (v := .agg (M.cells { m with pfx := m.pfx ++ ⟨#[120]⟩ })) (by rfl) rfl (run_loadM (x := .tmp 5) rfl rfl BX.out) ?_))
  refine (same_any m { m with pfx := m.pfx ++ ⟨#[120]⟩ } _ I1.out I2.out).mono ?_
  rw [NE.out]
  rintro e w6 ⟨rfl, hb4⟩
  have bel := bcall bel hb4
  have B1 := Lib.hid (B1.out.below hb4)
  have BX := Lib.hid (BX.out.below hb4)
  have I1 := Lib.hid (I1.out.below hb4)
  have I2 := Lib.hid (I2.out.below hb4)
  clear hb4
  go_wp2_with (first | (refine st_yes (v := .agg (M.cells m)) (by rfl) rfl (run_loadM (x := .tmp 2) rfl rfl B1.out) ?_) | (refine st_yes (v := .agg (M.cells { m with pfx := m.pfx ++ ⟨#[120]⟩ })) (by rfl) rfl (run_loadM (x := .tmp 5) rfl rfl BX.out) ?_))
  refine (same_any { m with pfx := m.pfx ++ ⟨#[120]⟩ } m _ I2.out I1.out).mono ?_
  rw [same_comm, NE.out]
  rintro e w7 ⟨rfl, hb4⟩
  have bel := bcall bel hb4
  clear hb4
  go_wp2
  go_ret
  exact ⟨rfl, bel⟩

set_option maxHeartbeats 6400000 in
set_option maxRecDepth 100000 in
theorem ch_7 (m : M) (q : Int) (w : World) (hk : q % 25 = 7) (h0 : 0 ≤ q) (h1 : q < 256) (hd : DRow w m.la m.ll) (hs : SRow w m.sa m.sl) (hf : fewB m = true) :
    Calls Try.prog 5 #[.agg m.cells, .int .u8 q] w fun e w' => e = .returned (.bool true) ∧ Below w.heap.size w w' := by
  have PF := Lib.hid (fun W (h : Below w.heap.size w W) => few_any m W (hd.below h) (hs.below h))
  rw [hf] at PF
  have IN := Lib.hid (fun W (h : Below w.heap.size w W) => show m.In W from ⟨hd.below h, hs.below h, by have := few_facts hf; omega, by have := few_facts hf; omega⟩)
  have b0 := Bx.new w m
  have bel := balloc (Below.refl _ w) (.cells m.cells 25)
  have hd0 := Lib.hid (show DRow w m.la m.ll ∧ SRow w m.sa m.sl ∧ fewB m = true from ⟨hd, hs, hf⟩)
  clear hd hs hf
  have HK := Lib.hid hk
  clear hk
  go_enter Try.func5, Try.ntmps5
  go_upto_region 1 with fail
  generalize w.alloc (.cells m.cells 25) = V at *
  have B1 := Lib.hid b0
  clear b0
  go_wp2_with (first | (refine wpList_loadM (b := w.heap.size) (m := m) rfl _ rfl rfl B1.out ?_))
  refine (PF.out _ bel).mono ?_
  rintro e w1 ⟨rfl, hb1⟩
  have bel := bcall bel hb1
  have B1 := Lib.hid (B1.out.below hb1)
  have B0 := Lib.hid B1.out.lt
  clear hb1 PF
  go_upto_region 4 with (first | (refine wpList_loadM (b := w.heap.size) (m := m) rfl _ rfl rfl B1.out ?_) | (change wpList _ _ _ _ _ (w1.alloc (.cells M.zero.cells 25)); refine wpList_storeM (b := w1.heap.size) (m := M.zero) (m' := m) rfl _ _ rfl rfl rfl (heap_alloc_new w1 _) ?_))
  rw [World.setRow_alloc_new]
  have bx := Bx.new w1 m
  have B1 := Lib.hid (B1.out.old (.cells m.cells 25))
  have hle : w.heap.size ≠ w1.heap.size := by
    have h2 := B0.out
    omega
  have bel := balloc bel (.cells m.cells 25)
  have hge : w.heap.size ≤ w1.heap.size := by have := B0.out; omega
  generalize w1.alloc (.cells m.cells 25) = w2 at *
  generalize w1.heap.size = g at *
  have I1 := Lib.hid (IN.out _ bel)
  have cx := bx.cs.c7
  have fx := bx.frozen 7
  have BX := Lib.hid bx
  have hk := HK.out
  clear bx HK IN B0
  go_upto_region 54 with fail
  clear cx fx hk
  have BX := Lib.hid (BX.out.set (i := 7) (v := (.int .i64 (bits .xor .i64 m.plen 1))) (m' := { m with plen := bits .xor .i64 m.plen 1 }) rfl)
  have B1 := Lib.hid (B1.out.off (p := ⟨g, 7, none⟩) hle (.int .i64 (bits .xor .i64 m.plen 1)))
  have NE := Lib.hid (show M.same m { m with plen := bits .xor .i64 m.plen 1 } = false by simp [M.same, M.flatE, flip_ne m.plen])
  have bel := bel.setCell (p := ⟨g, 7, none⟩) hge (.int .i64 (bits .xor .i64 m.plen 1))
  have I1 := Lib.hid (in_of hd0.out bel)
  have I2 := Lib.hid (show M.In { m with plen := bits .xor .i64 m.plen 1 } _ from ⟨I1.out.d, I1.out.s, I1.out.dl, I1.out.sl⟩)
  clear hd0
  generalize w2.setCell ⟨g, 7, none⟩ (.int .i64 (bits .xor .i64 m.plen 1)) = w3 at *
  have SM := Lib.hid (same_refl m)
  go_wp2_with fail
  refine (awake_any _).mono ?_
  rintro e w4 ⟨rfl, hb4⟩
  have bel := bcall bel hb4
  have B1 := Lib.hid (B1.out.below hb4)
  have BX := Lib.hid (BX.out.below hb4)
  have I1 := Lib.hid (I1.out.below hb4)
  have I2 := Lib.hid (I2.out.below hb4)
  clear hb4
  go_wp2_with (first | (refine st_yes (v := .agg (M.cells m)) (by rfl) rfl (run_loadM (x := .tmp 2) rfl rfl B1.out) ?_) | (refine st_yes (v := .agg (M.cells { m with plen := bits .xor .i64 m.plen 1 })) (by rfl) rfl (run_loadM (x := .tmp 5) rfl rfl BX.out) ?_))
  refine (same_any m m _ I1.out I1.out).mono ?_
  rw [SM.out]
  rintro e w5 ⟨rfl, hb4⟩
  have bel := bcall bel hb4
  have B1 := Lib.hid (B1.out.below hb4)
  have BX := Lib.hid (BX.out.below hb4)
  have I1 := Lib.hid (I1.out.below hb4)
  have I2 := Lib.hid (I2.out.below hb4)
  clear hb4
  go_wp2_with (first | (refine st_yes (v := .agg (M.cells m)) (by rfl) rfl (run_loadM (x := .tmp 2) rfl rfl B1.out) ?_) | (refine st_yes (v := .agg (M.cells { m with plen := bits .xor .i64 m.plen 1 })) (by rfl) rfl (run_loadM (x := .tmp 5) rfl rfl BX.out) ?_))
  refine (same_any m { m with plen := bits .xor .i64 m.plen 1 } _ I1.out I2.out).mono ?_
  rw [NE.out]
  rintro e w6 ⟨rfl, hb4⟩
  have bel := bcall bel hb4
  have B1 := Lib.hid (B1.out.below hb4)
  have BX := Lib.hid (BX.out.below hb4)
  have I1 := Lib.hid (I1.out.below hb4)
  have I2 := Lib.hid (I2.out.below hb4)
  clear hb4
  go_wp2_with (first | (refine st_yes (v := .agg (M.cells m)) (by rfl) rfl (run_loadM (x := .tmp 2) rfl rfl B1.out) ?_) | (refine st_yes (v := .agg (M.cells { m with plen := bits .xor .i64 m.plen 1 })) (by rfl) rfl (run_loadM (x := .tmp 5) rfl rfl BX.out) ?_))
  refine (same_any { m with plen := bits .xor .i64 m.plen 1 } m _ I2.out I1.out).mono ?_
  rw [same_comm, NE.out]
  rintro e w7 ⟨rfl, hb4⟩
  have bel := bcall bel hb4
  clear hb4
  go_wp2
  go_ret
  exact ⟨rfl, bel⟩

set_option maxHeartbeats 6400000 in
set_option maxRecDepth 100000 in
theorem ch_8 (m : M) (q : Int) (w : World) (hk : q % 25 = 8) (h0 : 0 ≤ q) (h1 : q < 256) (hd : DRow w m.la m.ll) (hs : SRow w m.sa m.sl) (hf : fewB m = true) :
    Calls Try.prog 5 #[.agg m.cells, .int .u8 q] w fun e w' => e = .returned (.bool true) ∧ Below w.heap.size w w' := by
  have PF := Lib.hid (fun W (h : Below w.heap.size w W) => few_any m W (hd.below h) (hs.below h))
  rw [hf] at PF
  have IN := Lib.hid (fun W (h : Below w.heap.size w W) => show m.In W from ⟨hd.below h, hs.below h, by have := few_facts hf; omega, by have := few_facts hf; omega⟩)
  have b0 := Bx.new w m
  have bel := balloc (Below.refl _ w) (.cells m.cells 25)
  have hd0 := Lib.hid (show DRow w m.la m.ll ∧ SRow w m.sa m.sl ∧ fewB m = true from ⟨hd, hs, hf⟩)
  clear hd hs hf
  have HK := Lib.hid hk
  clear hk
  go_enter Try.func5, Try.ntmps5
  go_upto_region 1 with fail
  generalize w.alloc (.cells m.cells 25) = V at *
  have B1 := Lib.hid b0
  clear b0
  go_wp2_with (first | (refine wpList_loadM (b := w.heap.size) (m := m) rfl _ rfl rfl B1.out ?_))
  refine (PF.out _ bel).mono ?_
  rintro e w1 ⟨rfl, hb1⟩
  have bel := bcall bel hb1
  have B1 := Lib.hid (B1.out.below hb1)
  have B0 := Lib.hid B1.out.lt
  clear hb1 PF
  go_upto_region 4 with (first | (refine wpList_loadM (b := w.heap.size) (m := m) rfl _ rfl rfl B1.out ?_) | (change wpList _ _ _ _ _ (w1.alloc (.cells M.zero.cells 25)); refine wpList_storeM (b := w1.heap.size) (m := M.zero) (m' := m) rfl _ _ rfl rfl rfl (heap_alloc_new w1 _) ?_))
  rw [World.setRow_alloc_new]
  have bx := Bx.new w1 m
  have B1 := Lib.hid (B1.out.old (.cells m.cells 25))
  have hle : w.heap.size ≠ w1.heap.size := by
    have h2 := B0.out
    omega
  have bel := balloc bel (.cells m.cells 25)
  have hge : w.heap.size ≤ w1.heap.size := by have := B0.out; omega
  generalize w1.alloc (.cells m.cells 25) = w2 at *
  generalize w1.heap.size = g at *
  have I1 := Lib.hid (IN.out _ bel)
  have cx := bx.cs.c8
  have fx := bx.frozen 8
  have BX := Lib.hid bx
  have hk := HK.out
  clear bx HK IN B0
  go_upto_region 54 with fail
  clear cx fx hk
  have BX := Lib.hid (BX.out.set (i := 8) (v := (.int .i64 (bits .xor .i64 m.tag 1))) (m' := { m with tag := bits .xor .i64 m.tag 1 }) rfl)
  have B1 := Lib.hid (B1.out.off (p := ⟨g, 8, none⟩) hle (.int .i64 (bits .xor .i64 m.tag 1)))
  have NE := Lib.hid (show M.same m { m with tag := bits .xor .i64 m.tag 1 } = false by simp [M.same, M.flatE, flip_ne m.tag])
  have bel := bel.setCell (p := ⟨g, 8, none⟩) hge (.int .i64 (bits .xor .i64 m.tag 1))
  have I1 := Lib.hid (in_of hd0.out bel)
  have I2 := Lib.hid (show M.In { m with tag := bits .xor .i64 m.tag 1 } _ from ⟨I1.out.d, I1.out.s, I1.out.dl, I1.out.sl⟩)
  clear hd0
  generalize w2.setCell ⟨g, 8, none⟩ (.int .i64 (bits .xor .i64 m.tag 1)) = w3 at *
  have SM := Lib.hid (same_refl m)
  go_wp2_with fail
  refine (awake_any _).mono ?_
  rintro e w4 ⟨rfl, hb4⟩
  have bel := bcall bel hb4
  have B1 := Lib.hid (B1.out.below hb4)
  have BX := Lib.hid (BX.out.below hb4)
  have I1 := Lib.hid (I1.out.below hb4)
  have I2 := Lib.hid (I2.out.below hb4)
  clear hb4
  go_wp2_with (first | (refine st_yes (v := .agg (M.cells m)) (by rfl) rfl (run_loadM (x := .tmp 2) rfl rfl B1.out) ?_) | (refine st_yes (v := .agg (M.cells { m with tag := bits .xor .i64 m.tag 1 })) (by rfl) rfl (run_loadM (x := .tmp 5) rfl rfl BX.out) ?_))
  refine (same_any m m _ I1.out I1.out).mono ?_
  rw [SM.out]
  rintro e w5 ⟨rfl, hb4⟩
  have bel := bcall bel hb4
  have B1 := Lib.hid (B1.out.below hb4)
  have BX := Lib.hid (BX.out.below hb4)
  have I1 := Lib.hid (I1.out.below hb4)
  have I2 := Lib.hid (I2.out.below hb4)
  clear hb4
  go_wp2_with (first | (refine st_yes (v := .agg (M.cells m)) (by rfl) rfl (run_loadM (x := .tmp 2) rfl rfl B1.out) ?_) | (refine st_yes (v := .agg (M.cells { m with tag := bits .xor .i64 m.tag 1 })) (by rfl) rfl (run_loadM (x := .tmp 5) rfl rfl BX.out) ?_))
  refine (same_any m { m with tag := bits .xor .i64 m.tag 1 } _ I1.out I2.out).mono ?_
  rw [NE.out]
  rintro e w6 ⟨rfl, hb4⟩
  have bel := bcall bel hb4
  have B1 := Lib.hid (B1.out.below hb4)
  have BX := Lib.hid (BX.out.below hb4)
  have I1 := Lib.hid (I1.out.below hb4)
  have I2 := Lib.hid (I2.out.below hb4)
  clear hb4
  go_wp2_with (first | (refine st_yes (v := .agg (M.cells m)) (by rfl) rfl (run_loadM (x := .tmp 2) rfl rfl B1.out) ?_) | (refine st_yes (v := .agg (M.cells { m with tag := bits .xor .i64 m.tag 1 })) (by rfl) rfl (run_loadM (x := .tmp 5) rfl rfl BX.out) ?_))
  refine (same_any { m with tag := bits .xor .i64 m.tag 1 } m _ I2.out I1.out).mono ?_
  rw [same_comm, NE.out]
  rintro e w7 ⟨rfl, hb4⟩
  have bel := bcall bel hb4
  clear hb4
  go_wp2
  go_ret
  exact ⟨rfl, bel⟩

set_option maxHeartbeats 6400000 in
set_option maxRecDepth 100000 in
theorem ch_9 (m : M) (q : Int) (w : World) (hk : q % 25 = 9) (h0 : 0 ≤ q) (h1 : q < 256) (hd : DRow w m.la m.ll) (hs : SRow w m.sa m.sl) (hf : fewB m = true) (hz : m.next.size ≤ 140737488355328) :
    Calls Try.prog 5 #[.agg m.cells, .int .u8 q] w fun e w' => e = .returned (.bool true) ∧ Below w.heap.size w w' := by
  have PF := Lib.hid (fun W (h : Below w.heap.size w W) => few_any m W (hd.below h) (hs.below h))
  rw [hf] at PF
  have IN := Lib.hid (fun W (h : Below w.heap.size w W) => show m.In W from ⟨hd.below h, hs.below h, by have := few_facts hf; omega, by have := few_facts hf; omega⟩)
  have b0 := Bx.new w m
  have bel := balloc (Below.refl _ w) (.cells m.cells 25)
  have hd0 := Lib.hid (show DRow w m.la m.ll ∧ SRow w m.sa m.sl ∧ fewB m = true from ⟨hd, hs, hf⟩)
  clear hd hs hf
  have HK := Lib.hid hk
  clear hk
  go_enter Try.func5, Try.ntmps5
  go_upto_region 1 with fail
  generalize w.alloc (.cells m.cells 25) = V at *
  have B1 := Lib.hid b0
  clear b0
  go_wp2_with (first | (refine wpList_loadM (b := w.heap.size) (m := m) rfl _ rfl rfl B1.out ?_))
  refine (PF.out _ bel).mono ?_
  rintro e w1 ⟨rfl, hb1⟩
  have bel := bcall bel hb1
  have B1 := Lib.hid (B1.out.below hb1)
  have B0 := Lib.hid B1.out.lt
  clear hb1 PF
  go_upto_region 4 with (first | (refine wpList_loadM (b := w.heap.size) (m := m) rfl _ rfl rfl B1.out ?_) | (change wpList _ _ _ _ _ (w1.alloc (.cells M.zero.cells 25)); refine wpList_storeM (b := w1.heap.size) (m := M.zero) (m' := m) rfl _ _ rfl rfl rfl (heap_alloc_new w1 _) ?_))
  rw [World.setRow_alloc_new]
  have bx := Bx.new w1 m
  have B1 := Lib.hid (B1.out.old (.cells m.cells 25))
  have hle : w.heap.size ≠ w1.heap.size := by
    have h2 := B0.out
    omega
  have bel := balloc bel (.cells m.cells 25)
  have hge : w.heap.size ≤ w1.heap.size := by have := B0.out; omega
  generalize w1.alloc (.cells m.cells 25) = w2 at *
  generalize w1.heap.size = g at *
  have I1 := Lib.hid (IN.out _ bel)
  have cx := bx.cs.c9
  have fx := bx.frozen 9
  have BX := Lib.hid bx
  have hk := HK.out
  clear bx HK IN B0
  go_upto_region 54 with fail
  clear cx fx hk
  have BX := Lib.hid (BX.out.set (i := 9) (v := (.string (m.next ++ ⟨#[120]⟩))) (m' := { m with next := m.next ++ ⟨#[120]⟩ }) rfl)
  have B1 := Lib.hid (B1.out.off (p := ⟨g, 9, none⟩) hle (.string (m.next ++ ⟨#[120]⟩)))
  have NE := Lib.hid (show M.same m { m with next := m.next ++ ⟨#[120]⟩ } = false by simp [M.same, M.flatE, more_ne m.next])
  have bel := bel.setCell (p := ⟨g, 9, none⟩) hge (.string (m.next ++ ⟨#[120]⟩))
  have I1 := Lib.hid (in_of hd0.out bel)
  have I2 := Lib.hid (show M.In { m with next := m.next ++ ⟨#[120]⟩ } _ from ⟨I1.out.d, I1.out.s, I1.out.dl, I1.out.sl⟩)
  clear hd0
  generalize w2.setCell ⟨g, 9, none⟩ (.string (m.next ++ ⟨#[120]⟩)) = w3 at *
  have SM := Lib.hid (same_refl m)
  go_wp2_with fail
  refine (awake_any _).mono ?_
  rintro e w4 ⟨rfl, hb4⟩
  have bel := bcall bel hb4
  have B1 := Lib.hid (B1.out.below hb4)
  have BX := Lib.hid (BX.out.below hb4)
  have I1 := Lib.hid (I1.out.below hb4)
  have I2 := Lib.hid (I2.out.below hb4)
  clear hb4
  go_wp2_with (first | (refine st_yes (v := .agg (M.cells m)) (by rfl) rfl (run_loadM (x := .tmp 2) rfl rfl B1.out) ?_) | (refine st_yes (v := .agg (M.cells { m with next := m.next ++ ⟨#[120]⟩ })) (by rfl) rfl (run_loadM (x := .tmp 5) rfl rfl BX.out) ?_))
  refine (same_any m m _ I1.out I1.out).mono ?_
  rw [SM.out]
  rintro e w5 ⟨rfl, hb4⟩
  have bel := bcall bel hb4
  have B1 := Lib.hid (B1.out.below hb4)
  have BX := Lib.hid (BX.out.below hb4)
  have I1 := Lib.hid (I1.out.below hb4)
  have I2 := Lib.hid (I2.out.below hb4)
  clear hb4
  go_wp2_with (first | (refine st_yes (v := .agg (M.cells m)) (by rfl) rfl (run_loadM (x := .tmp 2) rfl rfl B1.out) ?_) | (refine st_yes (v := .agg (M.cells { m with next := m.next ++ ⟨#[120]⟩ })) (by rfl) rfl (run_loadM (x := .tmp 5) rfl rfl BX.out) ?_))
  refine (same_any m { m with next := m.next ++ ⟨#[120]⟩ } _ I1.out I2.out).mono ?_
  rw [NE.out]
  rintro e w6 ⟨rfl, hb4⟩
  have bel := bcall bel hb4
  have B1 := Lib.hid (B1.out.below hb4)
  have BX := Lib.hid (BX.out.below hb4)
  have I1 := Lib.hid (I1.out.below hb4)
  have I2 := Lib.hid (I2.out.below hb4)
  clear hb4
  go_wp2_with (first | (refine st_yes (v := .agg (M.cells m)) (by rfl) rfl (run_loadM (x := .tmp 2) rfl rfl B1.out) ?_) | (refine st_yes (v := .agg (M.cells { m with next := m.next ++ ⟨#[120]⟩ })) (by rfl) rfl (run_loadM (x := .tmp 5) rfl rfl BX.out) ?_))
  refine (same_any { m with next := m.next ++ ⟨#[120]⟩ } m _ I2.out I1.out).mono ?_
  rw [same_comm, NE.out]
  rintro e w7 ⟨rfl, hb4⟩
  have bel := bcall bel hb4
  clear hb4
  go_wp2
  go_ret
  exact ⟨rfl, bel⟩

set_option maxHeartbeats 6400000 in
set_option maxRecDepth 100000 in
theorem ch_10 (m : M) (q : Int) (w : World) (hk : q % 25 = 10) (h0 : 0 ≤ q) (h1 : q < 256) (hd : DRow w m.la m.ll) (hs : SRow w m.sa m.sl) (hf : fewB m = true) :
    Calls Try.prog 5 #[.agg m.cells, .int .u8 q] w fun e w' => e = .returned (.bool true) ∧ Below w.heap.size w w' := by
  have PF := Lib.hid (fun W (h : Below w.heap.size w W) => few_any m W (hd.below h) (hs.below h))
  rw [hf] at PF
  have IN := Lib.hid (fun W (h : Below w.heap.size w W) => show m.In W from ⟨hd.below h, hs.below h, by have := few_facts hf; omega, by have := few_facts hf; omega⟩)
  have b0 := Bx.new w m
  have bel := balloc (Below.refl _ w) (.cells m.cells 25)
  have hd0 := Lib.hid (show DRow w m.la m.ll ∧ SRow w m.sa m.sl ∧ fewB m = true from ⟨hd, hs, hf⟩)
  clear hd hs hf
  have HK := Lib.hid hk
  clear hk
  go_enter Try.func5, Try.ntmps5
  go_upto_region 1 with fail
  generalize w.alloc (.cells m.cells 25) = V at *
  have B1 := Lib.hid b0
  clear b0
  go_wp2_with (first | (refine wpList_loadM (b := w.heap.size) (m := m) rfl _ rfl rfl B1.out ?_))
  refine (PF.out _ bel).mono ?_
  rintro e w1 ⟨rfl, hb1⟩
  have bel := bcall bel hb1
  have B1 := Lib.hid (B1.out.below hb1)
  have B0 := Lib.hid B1.out.lt
  clear hb1 PF
  go_upto_region 4 with (first | (refine wpList_loadM (b := w.heap.size) (m := m) rfl _ rfl rfl B1.out ?_) | (change wpList _ _ _ _ _ (w1.alloc (.cells M.zero.cells 25)); refine wpList_storeM (b := w1.heap.size) (m := M.zero) (m' := m) rfl _ _ rfl rfl rfl (heap_alloc_new w1 _) ?_))
  rw [World.setRow_alloc_new]
  have bx := Bx.new w1 m
  have B1 := Lib.hid (B1.out.old (.cells m.cells 25))
  have hle : w.heap.size ≠ w1.heap.size := by
    have h2 := B0.out
    omega
  have bel := balloc bel (.cells m.cells 25)
  have hge : w.heap.size ≤ w1.heap.size := by have := B0.out; omega
  generalize w1.alloc (.cells m.cells 25) = w2 at *
  generalize w1.heap.size = g at *
  have I1 := Lib.hid (IN.out _ bel)
  have cx := bx.cs.c10
  have fx := bx.frozen 10
  have BX := Lib.hid bx
  have hk := HK.out
  clear bx HK IN B0
  go_upto_region 54 with fail
  clear cx fx hk
  have BX := Lib.hid (BX.out.set (i := 10) (v := (.int .i64 (bits .xor .i64 m.metric 1))) (m' := { m with metric := bits .xor .i64 m.metric 1 }) rfl)
  have B1 := Lib.hid (B1.out.off (p := ⟨g, 10, none⟩) hle (.int .i64 (bits .xor .i64 m.metric 1)))
  have NE := Lib.hid (show M.same m { m with metric := bits .xor .i64 m.metric 1 } = false by simp [M.same, M.flatE, flip_ne m.metric])
  have bel := bel.setCell (p := ⟨g, 10, none⟩) hge (.int .i64 (bits .xor .i64 m.metric 1))
  have I1 := Lib.hid (in_of hd0.out bel)
  have I2 := Lib.hid (show M.In { m with metric := bits .xor .i64 m.metric 1 } _ from ⟨I1.out.d, I1.out.s, I1.out.dl, I1.out.sl⟩)
  clear hd0
  generalize w2.setCell ⟨g, 10, none⟩ (.int .i64 (bits .xor .i64 m.metric 1)) = w3 at *
  have SM := Lib.hid (same_refl m)
  go_wp2_with fail
  refine (awake_any _).mono ?_
  rintro e w4 ⟨rfl, hb4⟩
  have bel := bcall bel hb4
  have B1 := Lib.hid (B1.out.below hb4)
  have BX := Lib.hid (BX.out.below hb4)
  have I1 := Lib.hid (I1.out.below hb4)
  have I2 := Lib.hid (I2.out.below hb4)
  clear hb4
  go_wp2_with (first | (refine st_yes (v := .agg (M.cells m)) (by rfl) rfl (run_loadM (x := .tmp 2) rfl rfl B1.out) ?_) | (refine st_yes (v := .agg (M.cells { m with metric := bits .xor .i64 m.metric 1 })) (by rfl) rfl (run_loadM (x := .tmp 5) rfl rfl BX.out) ?_))
  refine (same_any m m _ I1.out I1.out).mono ?_
  rw [SM.out]
  rintro e w5 ⟨rfl, hb4⟩
  have bel := bcall bel hb4
  have B1 := Lib.hid (B1.out.below hb4)
  have BX := Lib.hid (BX.out.below hb4)
  have I1 := Lib.hid (I1.out.below hb4)
  have I2 := Lib.hid (I2.out.below hb4)
  clear hb4
  go_wp2_with (first | (refine st_yes (v := .agg (M.cells m)) (by rfl) rfl (run_loadM (x := .tmp 2) rfl rfl B1.out) ?_) | (refine st_yes (v := .agg (M.cells { m with metric := bits .xor .i64 m.metric 1 })) (by rfl) rfl (run_loadM (x := .tmp 5) rfl rfl BX.out) ?_))
  refine (same_any m { m with metric := bits .xor .i64 m.metric 1 } _ I1.out I2.out).mono ?_
  rw [NE.out]
  rintro e w6 ⟨rfl, hb4⟩
  have bel := bcall bel hb4
  have B1 := Lib.hid (B1.out.below hb4)
  have BX := Lib.hid (BX.out.below hb4)
  have I1 := Lib.hid (I1.out.below hb4)
  have I2 := Lib.hid (I2.out.below hb4)
  clear hb4
  go_wp2_with (first | (refine st_yes (v := .agg (M.cells m)) (by rfl) rfl (run_loadM (x := .tmp 2) rfl rfl B1.out) ?_) | (refine st_yes (v := .agg (M.cells { m with metric := bits .xor .i64 m.metric 1 })) (by rfl) rfl (run_loadM (x := .tmp 5) rfl rfl BX.out) ?_))
  refine (same_any { m with metric := bits .xor .i64 m.metric 1 } m _ I2.out I1.out).mono ?_
  rw [same_comm, NE.out]
  rintro e w7 ⟨rfl, hb4⟩
  have bel := bcall bel hb4
  clear hb4
  go_wp2
  go_ret
  exact ⟨rfl, bel⟩

set_option maxHeartbeats 6400000 in
set_option maxRecDepth 100000 in
theorem ch_11 (m : M) (q : Int) (w : World) (hk : q % 25 = 11) (h0 : 0 ≤ q) (h1 : q < 256) (hd : DRow w m.la m.ll) (hs : SRow w m.sa m.sl) (hf : fewB m = true) (hz : m.id.size ≤ 140737488355328) :
    Calls Try.prog 5 #[.agg m.cells, .int .u8 q] w fun e w' => e = .returned (.bool true) ∧ Below w.heap.size w w' := by
  have PF := Lib.hid (fun W (h : Below w.heap.size w W) => few_any m W (hd.below h) (hs.below h))
  rw [hf] at PF
  have IN := Lib.hid (fun W (h : Below w.heap.size w W) => show m.In W from ⟨hd.below h, hs.below h, by have := few_facts hf; omega, by have := few_facts hf; omega⟩)
  have b0 := Bx.new w m
  have bel := balloc (Below.refl _ w) (.cells m.cells 25)
  have hd0 := Lib.hid (show DRow w m.la m.ll ∧ SRow w m.sa m.sl ∧ fewB m = true from ⟨hd, hs, hf⟩)
  clear hd hs hf
  have HK := Lib.hid hk
  clear hk
  go_enter Try.func5, Try.ntmps5
  go_upto_region 1 with fail
  generalize w.alloc (.cells m.cells 25) = V at *
  have B1 := Lib.hid b0
  clear b0
  go_wp2_with (first | (refine wpList_loadM (b := w.heap.size) (m := m) rfl _ rfl rfl B1.out ?_))
  refine (PF.out _ bel).mono ?_
  rintro e w1 ⟨rfl, hb1⟩
  have bel := bcall bel hb1
  have B1 := Lib.hid (B1.out.below hb1)
  have B0 := Lib.hid B1.out.lt
  clear hb1 PF
  go_upto_region 4 with (first | (refine wpList_loadM (b := w.heap.size) (m := m) rfl _ rfl rfl B1.out ?_) | (change wpList _ _ _ _ _ (w1.alloc (.cells M.zero.cells 25)); refine wpList_storeM (b := w1.heap.size) (m := M.zero) (m' := m) rfl _ _ rfl rfl rfl (heap_alloc_new w1 _) ?_))
  rw [World.setRow_alloc_new]
  have bx := Bx.new w1 m
  have B1 := Lib.hid (B1.out.old (.cells m.cells 25))
  have hle : w.heap.size ≠ w1.heap.size := by
    have h2 := B0.out
    omega
  have bel := balloc bel (.cells m.cells 25)
  have hge : w.heap.size ≤ w1.heap.size := by have := B0.out; omega
  generalize w1.alloc (.cells m.cells 25) = w2 at *
  generalize w1.heap.size = g at *
  have I1 := Lib.hid (IN.out _ bel)
  have cx := bx.cs.c11
  have fx := bx.frozen 11
  have BX := Lib.hid bx
  have hk := HK.out
  clear bx HK IN B0
  go_upto_region 54 with fail
  clear cx fx hk
  have BX := Lib.hid (BX.out.set (i := 11) (v := (.string (m.id ++ ⟨#[120]⟩))) (m' := { m with id := m.id ++ ⟨#[120]⟩ }) rfl)
  have B1 := Lib.hid (B1.out.off (p := ⟨g, 11, none⟩) hle (.string (m.id ++ ⟨#[120]⟩)))
  have NE := Lib.hid (show M.same m { m with id := m.id ++ ⟨#[120]⟩ } = false by simp [M.same, M.flatE, more_ne m.id])
  have bel := bel.setCell (p := ⟨g, 11, none⟩) hge (.string (m.id ++ ⟨#[120]⟩))
  have I1 := Lib.hid (in_of hd0.out bel)
  have I2 := Lib.hid (show M.In { m with id := m.id ++ ⟨#[120]⟩ } _ from ⟨I1.out.d, I1.out.s, I1.out.dl, I1.out.sl⟩)
  clear hd0
  generalize w2.setCell ⟨g, 11, none⟩ (.string (m.id ++ ⟨#[120]⟩)) = w3 at *
  have SM := Lib.hid (same_refl m)
  go_wp2_with fail
  refine (awake_any _).mono ?_
  rintro e w4 ⟨rfl, hb4⟩
  have bel := bcall bel hb4
  have B1 := Lib.hid (B1.out.below hb4)
  have BX := Lib.hid (BX.out.below hb4)
  have I1 := Lib.hid (I1.out.below hb4)
  have I2 := Lib.hid (I2.out.below hb4)
  clear hb4
  go_wp2_with (first | (refine st_yes (v := .agg (M.cells m)) (by rfl) rfl (run_loadM (x := .tmp 2) rfl rfl B1.out) ?_) | (refine st_yes (v := .agg (M.cells { m with id := m.id ++ ⟨#[120]⟩ })) (by rfl) rfl (run_loadM (x := .tmp 5) rfl rfl BX.out) ?_))
  refine (same_any m m _ I1.out I1.out).mono ?_
  rw [SM.out]
  rintro e w5 ⟨rfl, hb4⟩
  have bel := bcall bel hb4
  have B1 := Lib.hid (B1.out.below hb4)
  have BX := Lib.hid (BX.out.below hb4)
  have I1 := Lib.hid (I1.out.below hb4)
  have I2 := Lib.hid (I2.out.below hb4)
  clear hb4
  go_wp2_with (first | (refine st_yes (v := .agg (M.cells m)) (by rfl) rfl (run_loadM (x := .tmp 2) rfl rfl B1.out) ?_) | (refine st_yes (v := .agg (M.cells { m with id := m.id ++ ⟨#[120]⟩ })) (by rfl) rfl (run_loadM (x := .tmp 5) rfl rfl BX.out) ?_))
  refine (same_any m { m with id := m.id ++ ⟨#[120]⟩ } _ I1.out I2.out).mono ?_
  rw [NE.out]
  rintro e w6 ⟨rfl, hb4⟩
  have bel := bcall bel hb4
  have B1 := Lib.hid (B1.out.below hb4)
  have BX := Lib.hid (BX.out.below hb4)
  have I1 := Lib.hid (I1.out.below hb4)
  have I2 := Lib.hid (I2.out.below hb4)
  clear hb4
  go_wp2_with (first | (refine st_yes (v := .agg (M.cells m)) (by rfl) rfl (run_loadM (x := .tmp 2) rfl rfl B1.out) ?_) | (refine st_yes (v := .agg (M.cells { m with id := m.id ++ ⟨#[120]⟩ })) (by rfl) rfl (run_loadM (x := .tmp 5) rfl rfl BX.out) ?_))
  refine (same_any { m with id := m.id ++ ⟨#[120]⟩ } m _ I2.out I1.out).mono ?_
  rw [same_comm, NE.out]
  rintro e w7 ⟨rfl, hb4⟩
  have bel := bcall bel hb4
  clear hb4
  go_wp2
  go_ret
  exact ⟨rfl, bel⟩

end Go.Proofs.Ytnjaoccienijbaa.Chg
