/-
  MsgChanged, the lists: a message with one field changed is another one.
-/
import Derived.Test.YtnjaoccienijbaaOpen
import Derived.Test.YtnjaoccienijbaaAw
import Derived.Test.YtnjaoccienijbaaLst
import Derived.Laws.AppendOwn
import Derived.OwnWalk
namespace Go.Proofs.Ytnjaoccienijbaa.Chg
open Go.ChangeShapes Go.WideShapes Go.ChangeAt Go.RowKit
open Go.Proofs.Ytnjaoccienijbaa.Ms
open Go.Proofs.Ytnjaoccienijbaa.Box
open Go.Proofs.Ytnjaoccienijbaa.Same
open Go.Proofs.Ytnjaoccienijbaa.SameP
open Go.Proofs.Ytnjaoccienijbaa.Hs
open Go.Proofs.Ytnjaoccienijbaa.Or
open Go.Proofs.Ytnjaoccienijbaa.Bare
open Go.Proofs.Ytnjaoccienijbaa.Few
open Go.Proofs.Ytnjaoccienijbaa.All
open Go.Proofs.Ytnjaoccienijbaa.Aw
open Go.Proofs.Ytnjaoccienijbaa.Open
set_option linter.unusedVariables false

set_option maxHeartbeats 6400000 in
set_option maxRecDepth 100000 in
theorem ch_23 (m : M) (q : Int) (w : World) (hk : q % 25 = 23) (h0 : 0 ≤ q) (h1 : q < 256) (hd : DRow w m.la m.ll) (hs : SRow w m.sa m.sl) (hf : fewB m = true) :
    Calls Try.prog 5 #[.agg m.cells, .int .u8 q] w fun e w' => e = .returned (.bool true) ∧ Below w.heap.size w w' := by
  have PF := Lib.hid (fun W (h : Below w.heap.size w W) => few_any m W (hd.below h) (hs.below h))
  rw [hf] at PF
  have IN := Lib.hid (fun W (h : Below w.heap.size w W) => show m.In W from ⟨hd.below h, hs.below h, by have := few_facts hf; omega, by have := few_facts hf; omega⟩)
  have b0 := Bx.new w m
  have bel := balloc (Below.refl _ w) (.cells m.cells 25)
  have hd0 := Lib.hid (show DRow w m.la m.ll ∧ SRow w m.sa m.sl ∧ fewB m = true from ⟨hd, hs, hf⟩)
  clear hd hs hf
  have HK := Lib.hid hk
  clear hk
  go_enter Try.func5, Try.ntmps5
  go_upto_region 1 with fail
  generalize w.alloc (.cells m.cells 25) = V at *
  have B1 := Lib.hid b0
  clear b0
  go_wp2_with (first | (refine wpList_loadM (b := w.heap.size) (m := m) rfl _ rfl rfl B1.out ?_))
  refine (PF.out _ bel).mono ?_
  rintro e w1 ⟨rfl, hb1⟩
  have bel := bcall bel hb1
  have B1 := Lib.hid (B1.out.below hb1)
  have B0 := Lib.hid B1.out.lt
  clear hb1 PF
  go_upto_region 4 with (first | (refine wpList_loadM (b := w.heap.size) (m := m) rfl _ rfl rfl B1.out ?_) | (change wpList _ _ _ _ _ (w1.alloc (.cells M.zero.cells 25)); refine wpList_storeM (b := w1.heap.size) (m := M.zero) (m' := m) rfl _ _ rfl rfl rfl (heap_alloc_new w1 _) ?_))
  rw [World.setRow_alloc_new]
  have bx := Bx.new w1 m
  have B1 := Lib.hid (B1.out.old (.cells m.cells 25))
  have hle : w.heap.size ≠ w1.heap.size := by
    have h2 := B0.out
    omega
  have bel := balloc bel (.cells m.cells 25)
  have hge : w.heap.size ≤ w1.heap.size := by have := B0.out; omega
  have hgl : w1.heap.size < (w1.alloc (.cells m.cells 25)).heap.size := by rw [alloc_size]; omega
  generalize w1.alloc (.cells m.cells 25) = w2 at *
  generalize w1.heap.size = g at *
  have HGL := Lib.hid hgl
  have HL := Lib.hid (show m.ll.length ≤ 300 ∧ m.sl.length ≤ 60 by have := few_facts hd0.out.2.2; omega)
  clear hgl
  have c0 := (B1.out.old (.cells #[] 37)).cs.c21
  have BX := Lib.hid bx
  have hk := HK.out
  clear bx HK IN B0
  obtain ⟨i0, hi, hz0, hz1, hz2⟩ := info_parts infoD
  have HROW := Lib.hid ((hd0.out.1).below bel)
  have hO0 := Lib.hid (World.ownsRow_lit (base := w2.heap.size) (e := 37) (size := 2) w2 #[] 0 (Nat.le_refl _) (by decide) rfl)
  rcases hla : m.la with _ | ad
  · have hll : m.ll = [] := drow_none (by have := hd0.out.1; rwa [hla] at this)
    rw [hla, hll] at c0
    have HO1 : Hid ((w2.alloc (.cells #[] 37)).ownsRow w2.heap.size 37 2 (.slice (some ⟨w2.heap.size, 0, none⟩) 0 0) m.ll.length (pairs fs fi m.ll)) := Lib.hid (by rw [hll]; exact hO0.out)
    have HB4 := Lib.hid ((Below.refl w2.heap.size w2).alloc (Nat.le_refl _) (.cells #[] 37))
    have HLL := Lib.hid hll
    have HLA := Lib.hid hla
    clear hll hla hO0 HROW
    go_wp2_with (at_builtin; refine wpList_append_own _ rfl _ _ 22 rfl w2.heap.size 37 i0 (.agg #[.string ByteArray.empty, .int .i64 0]) 2 24 Try.underlying22 hi hz0 hz1 hz2 rfl (by decide) _ _ _ rfl (HO1.out.alloc _) ⟨w2.heap.size + 1, 0, none⟩ 1 1 [.string ⟨#[]⟩, .int .i64 0] rfl rfl ?e1 ?e2 ?e3 ?e4 ?e5 ?_)
    case e1 =>
      intro j u hj
      match j, hj with
      | 0, hj => simp at hj; subst hj; simp [go_sem]
      | 1, hj => simp at hj; subst hj; simp [go_sem]
    case e2 =>
      intro u hu
      simp at hu
      rcases hu with rfl | rfl <;> rfl
    case e3 => have := HL.out; unfold maxLen; omega
    case e4 => have := HL.out; omega
    case e5 => have := HB4.out.size; rw [alloc_size]; omega
    intro v2 w5 hown2 hg2 _
    obtain ⟨gb, cap, rfl, hgb, hgs⟩ := hown2.form (by omega)
    have HB5 := Lib.hid (((HB4.out.alloc HB4.out.size (.cells #[.string ⟨#[]⟩, .int .i64 0] 37)).grown hg2 (by have := HB4.out.size; rw [alloc_size]; omega) (fun k hk => (HO1.out.lt k hk).1)))
    have HO2 := Lib.hid hown2
    have bel := bcall bel HB5.out
    have B1 := Lib.hid (B1.out.below HB5.out)
    have bx := BX.out.below HB5.out
    have cx := bx.cs.c21
    have fx := bx.frozen 21
    have BX := Lib.hid bx
    have HG := Lib.hid (show w2.heap.size ≤ gb ∧ gb < w5.heap.size from ⟨hgb, hgs⟩)
    clear hown2 hg2 bx hi hz0 hz1 hz2 HO1 HB4 HB5 hgb hgs
    go_upto_region 54 with fail
    clear cx fx
    have hng : g ≠ gb := by have := HG.out; have := HGL.out; omega
    have BX := Lib.hid (BX.out.set (i := 21) (v := .slice (some ⟨gb, 0, none⟩) (m.ll.length + 1) cap) (m' := { m with la := some ⟨gb, 0, none⟩, ll := m.ll ++ [((⟨#[]⟩ : ByteArray), (0 : Int))], lc := cap }) (by simp [M.cells, M.list, M.subs]))
    have B1 := Lib.hid (B1.out.off (p := ⟨g, 21, none⟩) hle (.slice (some ⟨gb, 0, none⟩) (m.ll.length + 1) cap))
    have NE := Lib.hid (show M.same m { m with la := some ⟨gb, 0, none⟩, ll := m.ll ++ [((⟨#[]⟩ : ByteArray), (0 : Int))], lc := cap } = false by simp [M.same])
    have bel := bel.setCell (p := ⟨g, 21, none⟩) hge (.slice (some ⟨gb, 0, none⟩) (m.ll.length + 1) cap)
    have I1 := Lib.hid (in_of hd0.out bel)
    have HRW := Lib.hid (drow_own (w := w5.setCell ⟨g, 21, none⟩ (.slice (some ⟨gb, 0, none⟩) (m.ll.length + 1) cap)) (g := gb) (l := m.ll ++ [((⟨#[]⟩ : ByteArray), (0 : Int))]) (by have := HG.out.2; simpa [World.setCell] using this) (fun j hj => by
      rw [World.cell?_setCell_other _ _ _ _ (by intro h; exact hng (congrArg Addr.block h)), pairs_snoc]
      exact HO2.out.cellAt j (by simpa using hj)))
    have I2 := Lib.hid (show M.In { m with la := some ⟨gb, 0, none⟩, ll := m.ll ++ [((⟨#[]⟩ : ByteArray), (0 : Int))], lc := cap } _ from ⟨HRW.out, I1.out.s, by have := HL.out; simp; omega, I1.out.sl⟩)
    clear hd0 HO2 HRW HG HGL HL
    generalize w5.setCell ⟨g, 21, none⟩ (.slice (some ⟨gb, 0, none⟩) (m.ll.length + 1) cap) = w3 at *
    have SM := Lib.hid (same_refl m)
    go_wp2_with fail
    refine (awake_any _).mono ?_
    rintro e w4 ⟨rfl, hb4⟩
    have bel := bcall bel hb4
    have B1 := Lib.hid (B1.out.below hb4)
    have BX := Lib.hid (BX.out.below hb4)
    have I1 := Lib.hid (I1.out.below hb4)
    have I2 := Lib.hid (I2.out.below hb4)
    clear hb4
    go_wp2_with (first | (refine st_yes (v := .agg (M.cells m)) (by rfl) rfl (run_loadM (x := .tmp 2) rfl rfl B1.out) ?_) | (refine st_yes (v := .agg (M.cells { m with la := some ⟨gb, 0, none⟩, ll := m.ll ++ [((⟨#[]⟩ : ByteArray), (0 : Int))], lc := cap })) (by rfl) rfl (run_loadM (x := .tmp 5) rfl rfl BX.out) ?_))
    refine (same_any m m _ I1.out I1.out).mono ?_
    rw [SM.out]
    rintro e w5 ⟨rfl, hb4⟩
    have bel := bcall bel hb4
    have B1 := Lib.hid (B1.out.below hb4)
    have BX := Lib.hid (BX.out.below hb4)
    have I1 := Lib.hid (I1.out.below hb4)
    have I2 := Lib.hid (I2.out.below hb4)
    clear hb4
    go_wp2_with (first | (refine st_yes (v := .agg (M.cells m)) (by rfl) rfl (run_loadM (x := .tmp 2) rfl rfl B1.out) ?_) | (refine st_yes (v := .agg (M.cells { m with la := some ⟨gb, 0, none⟩, ll := m.ll ++ [((⟨#[]⟩ : ByteArray), (0 : Int))], lc := cap })) (by rfl) rfl (run_loadM (x := .tmp 5) rfl rfl BX.out) ?_))
    refine (same_any m { m with la := some ⟨gb, 0, none⟩, ll := m.ll ++ [((⟨#[]⟩ : ByteArray), (0 : Int))], lc := cap } _ I1.out I2.out).mono ?_
    rw [NE.out]
    rintro e w6 ⟨rfl, hb4⟩
    have bel := bcall bel hb4
    have B1 := Lib.hid (B1.out.below hb4)
    have BX := Lib.hid (BX.out.below hb4)
    have I1 := Lib.hid (I1.out.below hb4)
    have I2 := Lib.hid (I2.out.below hb4)
    clear hb4
    go_wp2_with (first | (refine st_yes (v := .agg (M.cells m)) (by rfl) rfl (run_loadM (x := .tmp 2) rfl rfl B1.out) ?_) | (refine st_yes (v := .agg (M.cells { m with la := some ⟨gb, 0, none⟩, ll := m.ll ++ [((⟨#[]⟩ : ByteArray), (0 : Int))], lc := cap })) (by rfl) rfl (run_loadM (x := .tmp 5) rfl rfl BX.out) ?_))
    refine (same_any { m with la := some ⟨gb, 0, none⟩, ll := m.ll ++ [((⟨#[]⟩ : ByteArray), (0 : Int))], lc := cap } m _ I2.out I1.out).mono ?_
    rw [same_comm, NE.out]
    rintro e w7 ⟨rfl, hb4⟩
    have bel := bcall bel hb4
    clear hb4
    go_wp2
    go_ret
    exact ⟨rfl, bel⟩
  · rw [hla] at c0
    have HROW1 := Lib.hid (drow_cells (show DRow (w2.alloc (.cells #[] 37)) (some ad) m.ll by rw [← hla]; exact (hd0.out.1).below (balloc bel _)))
    have HLA := Lib.hid hla
    clear hla HROW
    go_wp2_with (at_builtin; refine wpList_append_own _ rfl _ _ 22 rfl w2.heap.size 37 i0 (.agg #[.string ByteArray.empty, .int .i64 0]) 2 24 Try.underlying22 hi hz0 hz1 hz2 rfl (by decide) _ _ _ rfl hO0.out ad m.ll.length m.lc (pairs fs fi m.ll) rfl (pairs_len _ _ _) HROW1.out (pairs_one _ _ (fun _ => rfl) (fun _ => rfl) _) ?c3 ?c4 ?c5 ?_)
    case c3 => have := HL.out; unfold maxLen; omega
    case c4 => have := HL.out; omega
    intro v1 w4 hown1 hg1 _
    have HO1 : Hid (w4.ownsRow w2.heap.size 37 2 v1 m.ll.length (pairs fs fi m.ll)) := Lib.hid (by simpa using hown1)
    have HB4 := Lib.hid (((Below.refl w2.heap.size w2).alloc (Nat.le_refl _) (.cells #[] 37)).grown hg1 (by rw [alloc_size]; omega) (fun k hk => by cases hk; exact Nat.le_refl _))
    clear hown1 hg1 hO0 HROW1 hk c0
    go_wp2_with (at_builtin; refine wpList_append_own _ rfl _ _ 22 rfl w2.heap.size 37 i0 (.agg #[.string ByteArray.empty, .int .i64 0]) 2 24 Try.underlying22 hi hz0 hz1 hz2 rfl (by decide) _ _ _ rfl (HO1.out.alloc _) ⟨w4.heap.size, 0, none⟩ 1 1 [.string ⟨#[]⟩, .int .i64 0] rfl rfl ?d1 ?d2 ?d3 ?d4 ?d5 ?_)
    case d1 =>
      intro j u hj
      match j, hj with
      | 0, hj => simp at hj; subst hj; simp [go_sem]
      | 1, hj => simp at hj; subst hj; simp [go_sem]
    case d2 =>
      intro u hu
      simp at hu
      rcases hu with rfl | rfl <;> rfl
    case d3 => have := HL.out; unfold maxLen; omega
    case d4 => have := HL.out; omega
    case d5 => have := HB4.out.size; rw [alloc_size]; omega
    intro v2 w5 hown2 hg2 _
    obtain ⟨gb, cap, rfl, hgb, hgs⟩ := hown2.form (by omega)
    have HB5 := Lib.hid (((HB4.out.alloc HB4.out.size (.cells #[.string ⟨#[]⟩, .int .i64 0] 37)).grown hg2 (by have := HB4.out.size; rw [alloc_size]; omega) (fun k hk => (HO1.out.lt k hk).1)))
    have HO2 := Lib.hid hown2
    have bel := bcall bel HB5.out
    have B1 := Lib.hid (B1.out.below HB5.out)
    have bx := BX.out.below HB5.out
    have cx := bx.cs.c21
    have fx := bx.frozen 21
    have BX := Lib.hid bx
    have HG := Lib.hid (show w2.heap.size ≤ gb ∧ gb < w5.heap.size from ⟨hgb, hgs⟩)
    clear hown2 hg2 bx hi hz0 hz1 hz2 HO1 HB4 HB5 hgb hgs
    go_upto_region 54 with fail
    clear cx fx
    have hng : g ≠ gb := by have := HG.out; have := HGL.out; omega
    have BX := Lib.hid (BX.out.set (i := 21) (v := .slice (some ⟨gb, 0, none⟩) (m.ll.length + 1) cap) (m' := { m with la := some ⟨gb, 0, none⟩, ll := m.ll ++ [((⟨#[]⟩ : ByteArray), (0 : Int))], lc := cap }) (by simp [M.cells, M.list, M.subs]))
    have B1 := Lib.hid (B1.out.off (p := ⟨g, 21, none⟩) hle (.slice (some ⟨gb, 0, none⟩) (m.ll.length + 1) cap))
    have NE := Lib.hid (show M.same m { m with la := some ⟨gb, 0, none⟩, ll := m.ll ++ [((⟨#[]⟩ : ByteArray), (0 : Int))], lc := cap } = false by simp [M.same])
    have bel := bel.setCell (p := ⟨g, 21, none⟩) hge (.slice (some ⟨gb, 0, none⟩) (m.ll.length + 1) cap)
    have I1 := Lib.hid (in_of hd0.out bel)
    have HRW := Lib.hid (drow_own (w := w5.setCell ⟨g, 21, none⟩ (.slice (some ⟨gb, 0, none⟩) (m.ll.length + 1) cap)) (g := gb) (l := m.ll ++ [((⟨#[]⟩ : ByteArray), (0 : Int))]) (by have := HG.out.2; simpa [World.setCell] using this) (fun j hj => by
      rw [World.cell?_setCell_other _ _ _ _ (by intro h; exact hng (congrArg Addr.block h)), pairs_snoc]
      exact HO2.out.cellAt j (by simpa using hj)))
    have I2 := Lib.hid (show M.In { m with la := some ⟨gb, 0, none⟩, ll := m.ll ++ [((⟨#[]⟩ : ByteArray), (0 : Int))], lc := cap } _ from ⟨HRW.out, I1.out.s, by have := HL.out; simp; omega, I1.out.sl⟩)
    clear hd0 HO2 HRW HG HGL HL
    generalize w5.setCell ⟨g, 21, none⟩ (.slice (some ⟨gb, 0, none⟩) (m.ll.length + 1) cap) = w3 at *
    have SM := Lib.hid (same_refl m)
    go_wp2_with fail
    refine (awake_any _).mono ?_
    rintro e w4 ⟨rfl, hb4⟩
    have bel := bcall bel hb4
    have B1 := Lib.hid (B1.out.below hb4)
    have BX := Lib.hid (BX.out.below hb4)
    have I1 := Lib.hid (I1.out.below hb4)
    have I2 := Lib.hid (I2.out.below hb4)
    clear hb4
    go_wp2_with (first | (refine st_yes (v := .agg (M.cells m)) (by rfl) rfl (run_loadM (x := .tmp 2) rfl rfl B1.out) ?_) | (refine st_yes (v := .agg (M.cells { m with la := some ⟨gb, 0, none⟩, ll := m.ll ++ [((⟨#[]⟩ : ByteArray), (0 : Int))], lc := cap })) (by rfl) rfl (run_loadM (x := .tmp 5) rfl rfl BX.out) ?_))
    refine (same_any m m _ I1.out I1.out).mono ?_
    rw [SM.out]
    rintro e w5 ⟨rfl, hb4⟩
    have bel := bcall bel hb4
    have B1 := Lib.hid (B1.out.below hb4)
    have BX := Lib.hid (BX.out.below hb4)
    have I1 := Lib.hid (I1.out.below hb4)
    have I2 := Lib.hid (I2.out.below hb4)
    clear hb4
    go_wp2_with (first | (refine st_yes (v := .agg (M.cells m)) (by rfl) rfl (run_loadM (x := .tmp 2) rfl rfl B1.out) ?_) | (refine st_yes (v := .agg (M.cells { m with la := some ⟨gb, 0, none⟩, ll := m.ll ++ [((⟨#[]⟩ : ByteArray), (0 : Int))], lc := cap })) (by rfl) rfl (run_loadM (x := .tmp 5) rfl rfl BX.out) ?_))
    refine (same_any m { m with la := some ⟨gb, 0, none⟩, ll := m.ll ++ [((⟨#[]⟩ : ByteArray), (0 : Int))], lc := cap } _ I1.out I2.out).mono ?_
    rw [NE.out]
    rintro e w6 ⟨rfl, hb4⟩
    have bel := bcall bel hb4
    have B1 := Lib.hid (B1.out.below hb4)
    have BX := Lib.hid (BX.out.below hb4)
    have I1 := Lib.hid (I1.out.below hb4)
    have I2 := Lib.hid (I2.out.below hb4)
    clear hb4
    go_wp2_with (first | (refine st_yes (v := .agg (M.cells m)) (by rfl) rfl (run_loadM (x := .tmp 2) rfl rfl B1.out) ?_) | (refine st_yes (v := .agg (M.cells { m with la := some ⟨gb, 0, none⟩, ll := m.ll ++ [((⟨#[]⟩ : ByteArray), (0 : Int))], lc := cap })) (by rfl) rfl (run_loadM (x := .tmp 5) rfl rfl BX.out) ?_))
    refine (same_any { m with la := some ⟨gb, 0, none⟩, ll := m.ll ++ [((⟨#[]⟩ : ByteArray), (0 : Int))], lc := cap } m _ I2.out I1.out).mono ?_
    rw [same_comm, NE.out]
    rintro e w7 ⟨rfl, hb4⟩
    have bel := bcall bel hb4
    clear hb4
    go_wp2
    go_ret
    exact ⟨rfl, bel⟩

end Go.Proofs.Ytnjaoccienijbaa.Chg
