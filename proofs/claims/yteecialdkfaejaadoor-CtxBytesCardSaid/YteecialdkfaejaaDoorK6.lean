/-
  The program's step over any TLV of the types 6 to 8. Conditions: what is known may be; at most 100000 bytes; the variables have what they are laid with.
-/
import Derived.Test.YteecialdkfaejaaDoorK5
namespace Go.Proofs.YteecialdkfaejaaDoor.K6
open Go.ChangeShapes Go.WideShapes Go.ChangeAt Go.RowKit
open Go.Proofs.YteecialdkfaejaaDoor.Ms
open Go.Proofs.YteecialdkfaejaaDoor.Box
open Go.Proofs.YteecialdkfaejaaDoor.An
open Go.Proofs.YteecialdkfaejaaDoor.Tc
open Go.Proofs.YteecialdkfaejaaDoor.K1
open Go.Proofs.YteecialdkfaejaaDoor.Kb
open Go.Proofs.YteecialdkfaejaaDoor.K2
open Go.Proofs.YteecialdkfaejaaDoor.K3
open Go.Proofs.YteecialdkfaejaaDoor.K4
open Go.Proofs.YteecialdkfaejaaDoor.K5
open Go.Proofs.YteecialdkfaejaaDoor.Tl (cellsT)
open Go.Proofs.YteecialdkfaejaaDoor.Bk (Bk Sh alloc_size wpList_loadK wpList_storeK run_loadK results_pair results_one loadVarK wpList_builtK)
open Go.Proofs.YteecialdkfaejaaDoor.Hs
open Go.Proofs.YteecialdkfaejaaDoor.Or (st_yes)
set_option linter.unusedVariables false
set_option maxRecDepth 100000
set_option maxHeartbeats 6400000 in
theorem behind_any (c : Kx) (a t : Int) (d : ByteArray) (w : World) (h : t = 6 ∨ t = 7 ∨ t = 8) (hc : okC c = true) (hs : d.size ≤ 100000) (ht : Tab w) :
    Calls Tryd.prog 14 #[.agg (stC c nilV), .agg (cellsT (a, (d, t)))] w (AnsSt (outC c t d) w) := by
  rcases h with rfl | rfl | rfl
  · have P1 := Lib.hid (fun V (y : Tab V) => routerId_any c d V hs)
    have HO : outC c 6 d = out6 c d := rfl
    rw [HO]
    clear HO hc hs
    generalize out6 c d = p at *
    go_enter Tryd.func14, Tryd.ntmps14
    go_upto_region 1 with fail
    change Code.wp _ _ _ _ (((w.alloc (.cells (stC c nilV) 47)).alloc (.cells (cellsT (a, (d, 6))) 29)).alloc (.cells (stC Kx.zero nilV) 47))
    have S0 := Lib.hid (((Bk.Bk.new 47 w (stC c nilV)).old (.cells (cellsT (a, (d, 6))) 29)).old (.cells (stC Kx.zero nilV) 47))
    have T0 := Bk.Bk.new 29 (w.alloc (.cells (stC c nilV) 47)) (cellsT (a, (d, 6)))
    rw [alloc_size] at T0
    have T0 := Lib.hid (T0.old (.cells (stC Kx.zero nilV) 47))
    have R0 := Bk.Bk.new 47 ((w.alloc (.cells (stC c nilV) 47)).alloc (.cells (cellsT (a, (d, 6))) 29)) (stC Kx.zero nilV)
    rw [alloc_size, alloc_size] at R0
    have R0 := Lib.hid R0
    have HB := Lib.hid (balloc (balloc (balloc (Below.refl _ w) (.cells (stC c nilV) 47)) (.cells (cellsT (a, (d, 6))) 29)) (.cells (stC Kx.zero nilV) 47))
    have HT := Lib.hid (ht.below HB.out)
    have h1 := ht.pos
    have hlt := R0.out.lt
    clear ht
    generalize ((w.alloc (.cells (stC c nilV) 47)).alloc (.cells (cellsT (a, (d, 6))) 29)).alloc (.cells (stC Kx.zero nilV) 47) = W at *
    have c0 := T0.out.cell 0 (.int .i64 6) rfl
    have c2 := T0.out.cell 2 (.string d) rfl
    go_wp2_with (first | (refine wpList_loadS (b := w.heap.size) (c := c) (v := nilV) rfl _ rfl rfl S0.out ?_) | (refine Bk.wpList_loadK (b := w.heap.size + 1) Tl.shT rfl _ rfl rfl T0.out rfl ?_))
    refine (P1.out _ HT.out).mono ?_
    clear c0 c2 P1
    intro e w1 hr
    obtain ⟨qa, qn, qk, rfl, hb, hA⟩ := hr.boxed (w := w) (g := w.heap.size + 1 + 1) (by omega) hlt HB.out
    have R0 := Lib.hid (R0.out.below hb)
    have HA := Lib.hid hA
    clear hr hb hA
    go_wp2_with (first | (refine wpList_storeS (b := w.heap.size + 1 + 1) (c := Kx.zero) (c' := p.1) (v := nilV) (q := qa) (n := qn) (k := qk) rfl _ _ rfl rfl rfl R0.out ?_))
    exact bodyPost_ret (v := .tuple #[.agg (stC p.1 (.slice qa qn qk)), .int .i64 p.2.2]) (results_pair rfl _ _ (w.heap.size + 1 + 1) _ rfl (loadVarK shS (R0.out.put (stC p.1 (.slice qa qn qk))) rfl) (.int .i64 p.2.2) rfl) rfl HA.out
  · have P1 := Lib.hid (fun V (y : Tab V) => nextHop_any c d V hs y)
    have HO : outC c 7 d = out7 c d := rfl
    rw [HO]
    clear HO hc hs
    generalize out7 c d = p at *
    go_enter Tryd.func14, Tryd.ntmps14
    go_upto_region 1 with fail
    change Code.wp _ _ _ _ (((w.alloc (.cells (stC c nilV) 47)).alloc (.cells (cellsT (a, (d, 7))) 29)).alloc (.cells (stC Kx.zero nilV) 47))
    have S0 := Lib.hid (((Bk.Bk.new 47 w (stC c nilV)).old (.cells (cellsT (a, (d, 7))) 29)).old (.cells (stC Kx.zero nilV) 47))
    have T0 := Bk.Bk.new 29 (w.alloc (.cells (stC c nilV) 47)) (cellsT (a, (d, 7)))
    rw [alloc_size] at T0
    have T0 := Lib.hid (T0.old (.cells (stC Kx.zero nilV) 47))
    have R0 := Bk.Bk.new 47 ((w.alloc (.cells (stC c nilV) 47)).alloc (.cells (cellsT (a, (d, 7))) 29)) (stC Kx.zero nilV)
    rw [alloc_size, alloc_size] at R0
    have R0 := Lib.hid R0
    have HB := Lib.hid (balloc (balloc (balloc (Below.refl _ w) (.cells (stC c nilV) 47)) (.cells (cellsT (a, (d, 7))) 29)) (.cells (stC Kx.zero nilV) 47))
    have HT := Lib.hid (ht.below HB.out)
    have h1 := ht.pos
    have hlt := R0.out.lt
    clear ht
    generalize ((w.alloc (.cells (stC c nilV) 47)).alloc (.cells (cellsT (a, (d, 7))) 29)).alloc (.cells (stC Kx.zero nilV) 47) = W at *
    have c0 := T0.out.cell 0 (.int .i64 7) rfl
    have c2 := T0.out.cell 2 (.string d) rfl
    go_wp2_with (first | (refine wpList_loadS (b := w.heap.size) (c := c) (v := nilV) rfl _ rfl rfl S0.out ?_) | (refine Bk.wpList_loadK (b := w.heap.size + 1) Tl.shT rfl _ rfl rfl T0.out rfl ?_))
    refine (P1.out _ HT.out).mono ?_
    clear c0 c2 P1
    intro e w1 hr
    obtain ⟨qa, qn, qk, rfl, hb, hA⟩ := hr.boxed (w := w) (g := w.heap.size + 1 + 1) (by omega) hlt HB.out
    have R0 := Lib.hid (R0.out.below hb)
    have HA := Lib.hid hA
    clear hr hb hA
    go_wp2_with (first | (refine wpList_storeS (b := w.heap.size + 1 + 1) (c := Kx.zero) (c' := p.1) (v := nilV) (q := qa) (n := qn) (k := qk) rfl _ _ rfl rfl rfl R0.out ?_))
    exact bodyPost_ret (v := .tuple #[.agg (stC p.1 (.slice qa qn qk)), .int .i64 p.2.2]) (results_pair rfl _ _ (w.heap.size + 1 + 1) _ rfl (loadVarK shS (R0.out.put (stC p.1 (.slice qa qn qk))) rfl) (.int .i64 p.2.2) rfl) rfl HA.out
  · have P1 := Lib.hid (fun V (y : Tab V) => update_any c a d V hc hs y)
    have HO : outC c 8 d = out8 c d := rfl
    rw [HO]
    clear HO hc hs
    generalize out8 c d = p at *
    go_enter Tryd.func14, Tryd.ntmps14
    go_upto_region 1 with fail
    change Code.wp _ _ _ _ (((w.alloc (.cells (stC c nilV) 47)).alloc (.cells (cellsT (a, (d, 8))) 29)).alloc (.cells (stC Kx.zero nilV) 47))
    have S0 := Lib.hid (((Bk.Bk.new 47 w (stC c nilV)).old (.cells (cellsT (a, (d, 8))) 29)).old (.cells (stC Kx.zero nilV) 47))
    have T0 := Bk.Bk.new 29 (w.alloc (.cells (stC c nilV) 47)) (cellsT (a, (d, 8)))
    rw [alloc_size] at T0
    have T0 := Lib.hid (T0.old (.cells (stC Kx.zero nilV) 47))
    have R0 := Bk.Bk.new 47 ((w.alloc (.cells (stC c nilV) 47)).alloc (.cells (cellsT (a, (d, 8))) 29)) (stC Kx.zero nilV)
    rw [alloc_size, alloc_size] at R0
    have R0 := Lib.hid R0
    have HB := Lib.hid (balloc (balloc (balloc (Below.refl _ w) (.cells (stC c nilV) 47)) (.cells (cellsT (a, (d, 8))) 29)) (.cells (stC Kx.zero nilV) 47))
    have HT := Lib.hid (ht.below HB.out)
    have h1 := ht.pos
    have hlt := R0.out.lt
    clear ht
    generalize ((w.alloc (.cells (stC c nilV) 47)).alloc (.cells (cellsT (a, (d, 8))) 29)).alloc (.cells (stC Kx.zero nilV) 47) = W at *
    have c0 := T0.out.cell 0 (.int .i64 8) rfl
    have c2 := T0.out.cell 2 (.string d) rfl
    go_wp2_with (first | (refine wpList_loadS (b := w.heap.size) (c := c) (v := nilV) rfl _ rfl rfl S0.out ?_) | (refine Bk.wpList_loadK (b := w.heap.size + 1) Tl.shT rfl _ rfl rfl T0.out rfl ?_))
    refine (P1.out _ HT.out).mono ?_
    clear c0 c2 P1
    intro e w1 hr
    obtain ⟨qa, qn, qk, rfl, hb, hA⟩ := hr.boxed (w := w) (g := w.heap.size + 1 + 1) (by omega) hlt HB.out
    have R0 := Lib.hid (R0.out.below hb)
    have HA := Lib.hid hA
    clear hr hb hA
    go_wp2_with (first | (refine wpList_storeS (b := w.heap.size + 1 + 1) (c := Kx.zero) (c' := p.1) (v := nilV) (q := qa) (n := qn) (k := qk) rfl _ _ rfl rfl rfl R0.out ?_))
    exact bodyPost_ret (v := .tuple #[.agg (stC p.1 (.slice qa qn qk)), .int .i64 p.2.2]) (results_pair rfl _ _ (w.heap.size + 1 + 1) _ rfl (loadVarK shS (R0.out.put (stC p.1 (.slice qa qn qk))) rfl) (.int .i64 p.2.2) rfl) rfl HA.out
theorem built_st (c : Kx) : Tryd.prog.built 47 [(0, .agg c.cells)] = some (stC c nilV) := by kernel_rfl
theorem ctx_in (c : Kx) (v : Value) : ∀ j x, (c.cells.toList)[j]? = some x → (stC c v)[0 + j]? = some x := by
  intro j x hx
  match j, hx with
  | 0, hx => exact hx
  | 1, hx => exact hx
  | 2, hx => exact hx
  | 3, hx => exact hx
  | 4, hx => exact hx
  | 5, hx => exact hx
  | 6, hx => exact hx
  | j + 7, hx => cases hx
theorem infoX : (Tryd.prog.info? 27).map (·.size) = some 7 := by kernel_rfl
set_option maxHeartbeats 12800000 in
theorem step_any (c : Kx) (a t : Int) (d : ByteArray) (w : World) (h : t = 6 ∨ t = 7 ∨ t = 8) (hc : okC c = true) (hs : d.size ≤ 100000) (ht : Tab w) :
    Calls Tryd.prog 7 #[.agg c.cells, .agg (cellsT (a, (d, t)))] w (AnsC (outC c t d) w) := by
  have P1 := Lib.hid (fun V (y : Tab V) => behind_any c a t d V h hc hs y)
  have HE := Lib.hid (out_good t d hc).err
  clear h hc hs
  generalize outC c t d = p at *
  have HB := Lib.hid (balloc (balloc (balloc (Below.refl _ w) (.cells c.cells 27)) (.cells (cellsT (a, (d, t))) 29)) (.cells Kx.zero.cells 27))
  have C0 := Lib.hid (((Bk.Bk.new 27 w c.cells).old (.cells (cellsT (a, (d, t))) 29)).old (.cells Kx.zero.cells 27))
  have T0 := Bk.Bk.new 29 (w.alloc (.cells c.cells 27)) (cellsT (a, (d, t)))
  rw [alloc_size] at T0
  have T0 := Lib.hid (T0.old (.cells Kx.zero.cells 27))
  have R0 := Bk.Bk.new 27 ((w.alloc (.cells c.cells 27)).alloc (.cells (cellsT (a, (d, t))) 29)) Kx.zero.cells
  rw [alloc_size, alloc_size] at R0
  have R0 := Lib.hid R0
  have HT := Lib.hid (ht.below HB.out)
  clear ht
  go_enter Tryd.func7, Tryd.ntmps7
  go_upto_region 1 with fail
  change Code.wp _ _ _ _ (((w.alloc (.cells c.cells 27)).alloc (.cells (cellsT (a, (d, t))) 29)).alloc (.cells Kx.zero.cells 27))
  generalize ((w.alloc (.cells c.cells 27)).alloc (.cells (cellsT (a, (d, t))) 29)).alloc (.cells Kx.zero.cells 27) = W at *
  have hlt := R0.out.lt
  go_wp2_with (first | (refine wpList_loadX (b := w.heap.size) (m := c) rfl _ rfl rfl C0.out ?_) | (refine wpList_builtK rfl 47 _ rfl (stC c nilV) (by kernel_rfl) ?_) | (refine Bk.wpList_loadK (b := w.heap.size + 1) Tl.shT rfl _ rfl rfl T0.out rfl ?_))
  refine (P1.out _ HT.out).mono ?_
  rintro e w1 ⟨qa, qk, l, rfl, hp, hm, hb⟩
  have C0 := Lib.hid (C0.out.below hb)
  have R0 := Lib.hid (R0.out.below hb)
  have HB := Lib.hid (bcall HB.out hb)
  clear hb P1 T0 HT
  go_upto_region 2 with (refine wpList_storeS (b := w1.heap.size) (c := Kx.zero) (c' := p.1) (v := nilV) (q := qa) (n := l.length) (k := qk) rfl _ _ rfl rfl rfl (Bk.Bk.new 47 w1 (stC Kx.zero nilV)) ?_)
  change Code.wp _ _ _ _ ((w1.alloc (.cells (stC Kx.zero nilV) 47)).setRow w1.heap.size (stC p.1 (.slice qa l.length qk)))
  rw [World.setRow_alloc_new]
  have hlt1 := R0.out.lt
  have bel := balloc (Below.refl w1.heap.size w1) (.cells (stC p.1 (.slice qa l.length qk)) 47)
  have C0 := Lib.hid (C0.out.below bel)
  have R0 := Lib.hid (R0.out.below bel)
  have HB := Lib.hid (bcall HB.out bel)
  have HM := Lib.hid (hm.below bel)
  have HP := Lib.hid hp
  have G0 := Lib.hid (Bk.Bk.new 47 w1 (stC p.1 (.slice qa l.length qk)))
  clear bel hm hp
  generalize w1.alloc (.cells (stC p.1 (.slice qa l.length qk)) 47) = V at *
  generalize w1.heap.size = g at *
  by_cases he : p.2.2 = 0
  rotate_left
  · have HY := Lib.hid (HE.out he)
    have e1 : (p.2.2 == 0) = false := by simpa using he
    have e2 : (p.2.2 != 0) = true := by rw [bne, e1]; rfl
    clear he HE
    generalize p.2.2 = x at *
    go_wp2_with (first | (refine wpList_loadX (b := w.heap.size) (m := c) rfl _ rfl rfl C0.out ?_) | (refine wpList_storeX (b := w.heap.size + 1 + 1) (m := Kx.zero) (m' := c) rfl _ _ rfl rfl rfl R0.out ?_))
    exact bodyPost_ret (v := .tuple #[.agg c.cells, .slice none 0 0, .int .i64 x]) (results_three rfl _ _ (w.heap.size + 1 + 1) _ rfl (loadVarK shX (R0.out.put c.cells) rfl) (.slice none 0 0) rfl (.int .i64 x) rfl) rfl (AnsC.no HY.out (Box.below_setRow HB.out (by omega) _))
  obtain ⟨cc, ml, x⟩ := p
  simp only [] at *
  subst he
  clear HE
  have hcc : ∀ W', Bk 47 W' g (stC cc (.slice qa l.length qk)) → W'.cell? ⟨g, 7, none⟩ = some (.slice qa l.length qk) := fun W' h => h.cell 7 _ rfl
  go_upto_region 4 with fail
  refine wp_region_held_drew (S := fun W' => Bk 47 W' g (stC cc (.slice qa l.length qk))) (by kernel_rfl) G0.out.drew (fun hS => ?_)
  have R0 := Lib.hid (show Bk 27 V.drew (w.heap.size + 1 + 1) Kx.zero.cells from R0.out)
  have HM := Lib.hid (show MOwn W.heap.size V.drew qa l from HM.out.below (Below.refl _ V).drew)
  have HB := Lib.hid HB.out.drew
  clear G0
  generalize V.drew = X0 at *
  refine H.tk (i := 0) (v := .pointer (some ⟨g, 0, none⟩)) ?h0 hS ?_
  case h0 => exact (fun w hw => by go_simp)
  try simp only [Act.put, List.setIfInBounds_toArray, List.set_cons_zero, List.set_cons_succ]
  refine H.tk (i := 1) (v := .agg cc.cells) ?h1 hS ?_
  case h1 => exact (fun w hw => run_loadAt (x := .tmp 20) (l := cc.cells.toList) rfl rfl hw (ctx_in cc _) (aggX _) (sizeX _))
  try simp only [Act.put, List.setIfInBounds_toArray, List.set_cons_zero, List.set_cons_succ]
  refine H.tk (i := 2) (v := .pointer (some ⟨g, 7, none⟩)) ?h2 hS ?_
  case h2 => exact (fun w hw => by go_simp)
  try simp only [Act.put, List.setIfInBounds_toArray, List.set_cons_zero, List.set_cons_succ]
  refine H.tk (i := 3) (v := .slice qa l.length qk) ?h3 hS ?_
  case h3 => exact (fun w hw => by have c := hcc w hw; go_simp)
  try simp only [Act.put, List.setIfInBounds_toArray, List.set_cons_zero, List.set_cons_succ]
  have hS' := (show Bk 47 (X0.setRow (w.heap.size + 1 + 1) cc.cells) g (stC cc (.slice qa l.length qk)) from hS.row (by omega) _)
  refine Hx.H.storeRow (i := 4) (by simp only [List.getElem?_toArray, List.getElem?_cons_succ, List.getElem?_cons_zero]; rfl) (by kernel_rfl) rfl rfl (by kernel_rfl) (w.heap.size + 1 + 1) cc.cells rfl rfl 27 Kx.zero.cells R0.out infoX rfl (oneX cc) hS' ?_
  clear hS
  have hS := hS'
  clear hS'
  refine H.tk (i := 5) (v := .slice qa l.length qk) ?h5 hS ?_
  case h5 => exact (fun w hw => by go_simp)
  try simp only [Act.put, List.setIfInBounds_toArray, List.set_cons_zero, List.set_cons_succ]
  refine H.tk (i := 6) (v := (Value.int IntKind.i64 0)) (fun w _ => rfl) hS ?_
  try simp only [Act.put, List.setIfInBounds_toArray, List.set_cons_zero, List.set_cons_succ]
  refine wpAnyH_done (by kernel_rfl) ?_ _
  go_wp2_with fail
  exact bodyPost_ret (v := .tuple #[.agg cc.cells, .slice qa l.length qk, .int .i64 0]) (results_three rfl _ _ (w.heap.size + 1 + 1) _ rfl (loadVarK shX (R0.out.put cc.cells) rfl) (.slice qa l.length qk) rfl (.int .i64 0) rfl) rfl ⟨qa, qk, l, rfl, HP.out, (HM.out.under hlt _).mono (by omega), Box.below_setRow HB.out (by omega) _⟩
end Go.Proofs.YteecialdkfaejaaDoor.K6
