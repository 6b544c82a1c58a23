/-
  The statement RouteBack, of any message and any TLV. Condition: the listed variable has what the program's text lays it with (the tied card).
-/
import Derived.Test.YtkhdllhlhpkekaaDoorJ9
import Derived.Test.YtkhdllhlhpkekaaDoorCards
import Derived.Test.YtkhdllhlhpkekaaDoorTie
import Derived.Lay
import Derived.SevenTiedAt
import Derived.Stop.Joined
namespace Go.Proofs.YtkhdllhlhpkekaaDoor.routeBack
open Go.ChangeShapes Go.WideShapes Go.ChangeAt Go.RowKit
open Go.ChangeMaps (open_string shut_string)
open Go.Proofs.YtkhdllhlhpkekaaDoor.Ms
open Go.Proofs.YtkhdllhlhpkekaaDoor.Box
open Go.Proofs.YtkhdllhlhpkekaaDoor.S1
open Go.Proofs.YtkhdllhlhpkekaaDoor.J1
open Go.Proofs.YtkhdllhlhpkekaaDoor.An
open Go.Proofs.YtkhdllhlhpkekaaDoor.Tc
open Go.Proofs.YtkhdllhlhpkekaaDoor.J9
open Go.Proofs.YtkhdllhlhpkekaaDoor.Hs
open Go.Proofs.YtkhdllhlhpkekaaDoor.Open
set_option linter.unusedVariables false

open Go.Proofs.YtkhdllhlhpkekaaDoor.Tl (cellsT)
open Go.Proofs.YtkhdllhlhpkekaaDoor.Or (st_yes)
open Go.Proofs.YtkhdllhlhpkekaaDoor.Hx (ex_built)
open Go.Proofs.YtkhdllhlhpkekaaDoor.Bk (Bk)
open Go.Proofs.YtkhdllhlhpkekaaDoor.J4 (shU wpList_loadU wpList_storeU)
open Go.Proofs.YtkhdllhlhpkekaaDoor.J6 (AnsU)
open Go.Proofs.YtkhdllhlhpkekaaDoor.F1 (outT)
theorem add_nul3 (p : Addr) : p.add (0 * 3) = p := by
  unfold Addr.add
  split
  · rename_i h; cases p; simp_all
  · cases p; simp_all
theorem loadVarT {w : World} {q : Addr} {x : F1.T} (h : ∀ j v, ((cellsT x).toList)[j]? = some v → w.cell? (q.add j) = some v) : (loadVar 35 q).run Tryd.prog w = .ok (.agg (cellsT x)) w := by
  have hl : (loadCells q 3).run Tryd.prog w = .ok (cellsT x) w := by
    have := run_loadCells_list (P := Tryd.prog) w q (cellsT x).toList h
    rw [show (cellsT x).toList.length = 3 from rfl] at this
    rw [this]
  have hagg : (isAgg 35).run Tryd.prog w = .ok true w := by go_simp
  have hsz : (sizeOf 35).run Tryd.prog w = .ok 3 w := by go_simp
  simp only [loadVar, Sem.run_bind, hagg, Result.andThen_ok, if_true, hsz, hl, Sem.run_pure]
theorem wpList_loadT {ops : Array Oper} {rest : List Oper} {o : Oper} {a : Act} {w : World} {Q : Exit → Act → World → Prop} (hgd : o.guard = none) (x : Operand) (ho : o.op = .load 35 x)
    {q : Addr} (hx : a.eval x = .pointer (some q)) {m : F1.T} (hm : ∀ j v, ((cellsT m).toList)[j]? = some v → w.cell? (q.add j) = some v)
    (h : wpList Tryd.prog ops Q rest (a.put o.dst (.agg (cellsT m))) w) : wpList Tryd.prog ops Q (o :: rest) a w :=
  wpList_plain hgd fun K hK => by
    unfold Oper.wp execOp
    simp only [ho, hx, Instr.loadAt, Instr.sureAddr, Sem.run_bind, Sem.run_pure, Result.andThen_ok, loadVarT hm]
    exact hK _ _ h
theorem one_cells {w : World} {p : Addr} {x : F1.T} (h0 : w.cell? p = some (.int .i64 x.2.2)) (h1 : w.cell? (p.add 1) = some (.int .i64 x.1)) (h2 : w.cell? (p.add 2) = some (.string x.2.1)) : ∀ j v, ((cellsT x).toList)[j]? = some v → w.cell? (p.add j) = some v := by
  intro j v hv
  match j, hv with
  | 0, hv => rw [show p.add 0 = p from add_nul3 p, h0]; exact hv
  | 1, hv => rw [h1]; exact hv
  | 2, hv => rw [h2]; exact hv
  | j + 3, hv => simp [cellsT] at hv

set_option maxHeartbeats 25600000 in
set_option maxRecDepth 100000 in
theorem walk (m : M) (a t : Int) (d : ByteArray) (w : World) (hd : DRow w m.la m.ll) (hs : SRow w m.sa m.sl) (hpx : m.pfx.size ≤ maxLen) (hm : d.size ≤ maxLen) (ht : Tab w) :
    Calls Tryd.prog 5 #[.agg m.cells, .agg (cellsT (a, (d, t)))] w fun r w' => r = .returned (.bool true) ∧ Below w.heap.size w w' := by
  unfold maxLen at hm
  have HT0 := Lib.hid ht
  by_cases hf : Few.fewB m = true
  rotate_left
  · have hf : Few.fewB m = false := by simpa using hf
    go_enter Tryd.func5, Tryd.ntmps5
    go_upto_region 1 with fail
    change Code.wp _ _ _ _ ((w.alloc (.cells m.cells 25)).alloc (.cells (cellsT (a, (d, t))) 35))
    have bel := balloc (balloc (Below.refl _ w) (.cells m.cells 25)) (.cells (cellsT (a, (d, t))) 35)
    have T0 := Bk.Bk.new 35 (w.alloc (.cells m.cells 25)) (cellsT (a, (d, t)))
    rw [Bk.alloc_size] at T0
    have T0 := Lib.hid T0
    have B0 := Lib.hid ((Bx.new w m).old (.cells (cellsT (a, (d, t))) 35))
    have HT := Lib.hid (HT0.out.below bel)
    have HB := Lib.hid bel
    have HI := Lib.hid (show DRow _ m.la m.ll ∧ SRow _ m.sa m.sl from ⟨hd.below bel, hs.below bel⟩)
    have PF := Lib.hid (Few.few_any m _ HI.out.1 HI.out.2)
    clear bel
    generalize (w.alloc (.cells m.cells 25)).alloc (.cells (cellsT (a, (d, t))) 35) = V at *
    have c2 := T0.out.cell 2 (.string d) rfl
    rw [hf] at PF
    go_wp2_with (first | (refine wpList_loadM (b := w.heap.size) (m := m) rfl _ rfl rfl B0.out ?_))
    refine PF.out.mono ?_
    rintro r w1 ⟨rfl, hb⟩
    have T0 := Lib.hid (T0.out.below hb)
    have B0 := Lib.hid (B0.out.below hb)
    have HT := Lib.hid (HT.out.below hb)
    have HB := Lib.hid (bcall HB.out hb)
    have HI := Lib.hid (show DRow _ m.la m.ll ∧ SRow _ m.sa m.sl from ⟨HI.out.1.below hb, HI.out.2.below hb⟩)
    clear hb PF c2
    have c2 := T0.out.cell 2 (.string d) rfl
    go_wp2_with fail
    refine (awake_any _ HT.out).mono ?_
    rintro r w2 ⟨rfl, hb⟩
    have HB := Lib.hid (bcall HB.out hb)
    clear hb
    go_wp2
    go_ret
    exact ⟨rfl, HB.out⟩
  by_cases hz : d.size ≤ 255
  rotate_left
  · have hz2 : 255 < (d.size : Int) := by omega
    go_enter Tryd.func5, Tryd.ntmps5
    go_upto_region 1 with fail
    change Code.wp _ _ _ _ ((w.alloc (.cells m.cells 25)).alloc (.cells (cellsT (a, (d, t))) 35))
    have bel := balloc (balloc (Below.refl _ w) (.cells m.cells 25)) (.cells (cellsT (a, (d, t))) 35)
    have T0 := Bk.Bk.new 35 (w.alloc (.cells m.cells 25)) (cellsT (a, (d, t)))
    rw [Bk.alloc_size] at T0
    have T0 := Lib.hid T0
    have B0 := Lib.hid ((Bx.new w m).old (.cells (cellsT (a, (d, t))) 35))
    have HT := Lib.hid (HT0.out.below bel)
    have HB := Lib.hid bel
    have HI := Lib.hid (show DRow _ m.la m.ll ∧ SRow _ m.sa m.sl from ⟨hd.below bel, hs.below bel⟩)
    have PF := Lib.hid (Few.few_any m _ HI.out.1 HI.out.2)
    clear bel
    generalize (w.alloc (.cells m.cells 25)).alloc (.cells (cellsT (a, (d, t))) 35) = V at *
    have c2 := T0.out.cell 2 (.string d) rfl
    rw [hf] at PF
    go_wp2_with (first | (refine wpList_loadM (b := w.heap.size) (m := m) rfl _ rfl rfl B0.out ?_))
    refine PF.out.mono ?_
    rintro r w1 ⟨rfl, hb⟩
    have T0 := Lib.hid (T0.out.below hb)
    have B0 := Lib.hid (B0.out.below hb)
    have HT := Lib.hid (HT.out.below hb)
    have HB := Lib.hid (bcall HB.out hb)
    have HI := Lib.hid (show DRow _ m.la m.ll ∧ SRow _ m.sa m.sl from ⟨HI.out.1.below hb, HI.out.2.below hb⟩)
    clear hb PF c2
    have c2 := T0.out.cell 2 (.string d) rfl
    go_wp2_with fail
    refine (awake_any _ HT.out).mono ?_
    rintro r w2 ⟨rfl, hb⟩
    have HB := Lib.hid (bcall HB.out hb)
    clear hb
    go_wp2
    go_ret
    exact ⟨rfl, HB.out⟩
  have hz2 : ¬ 255 < (d.size : Int) := by omega
  obtain ⟨hl1, hl, hzz⟩ := few_parts hf
  have P1 := Lib.hid (fun V (h : m.In V) (q : Tab V) => J3.put_any m V h (by omega) hzz hpx q)
  have P2 := Lib.hid (fun V (h : m.In V) (q : Tab V) => Jr.right_any m V h hzz hpx q)
  have HZ := Lib.hid (show m.ll.length ≤ 1048576 ∧ m.sl.length ≤ 1048576 ∧ d.size ≤ 255 from ⟨by omega, by omega, hz⟩)
  clear hl1 hl hzz hz hm hpx
  by_cases hok : okJ m = true
  rotate_left
  · have hok : okJ m = false := by simpa using hok
    rw [hok, putJ_no hok] at P1
    rw [hok] at P2
    clear hok
    go_enter Tryd.func5, Tryd.ntmps5
    go_upto_region 1 with fail
    change Code.wp _ _ _ _ ((w.alloc (.cells m.cells 25)).alloc (.cells (cellsT (a, (d, t))) 35))
    have bel := balloc (balloc (Below.refl _ w) (.cells m.cells 25)) (.cells (cellsT (a, (d, t))) 35)
    have T0 := Bk.Bk.new 35 (w.alloc (.cells m.cells 25)) (cellsT (a, (d, t)))
    rw [Bk.alloc_size] at T0
    have T0 := Lib.hid T0
    have B0 := Lib.hid ((Bx.new w m).old (.cells (cellsT (a, (d, t))) 35))
    have HT := Lib.hid (HT0.out.below bel)
    have HB := Lib.hid bel
    have HI := Lib.hid (show DRow _ m.la m.ll ∧ SRow _ m.sa m.sl from ⟨hd.below bel, hs.below bel⟩)
    have PF := Lib.hid (Few.few_any m _ HI.out.1 HI.out.2)
    clear bel
    generalize (w.alloc (.cells m.cells 25)).alloc (.cells (cellsT (a, (d, t))) 35) = V at *
    have c2 := T0.out.cell 2 (.string d) rfl
    rw [hf] at PF
    go_wp2_with (first | (refine wpList_loadM (b := w.heap.size) (m := m) rfl _ rfl rfl B0.out ?_))
    refine PF.out.mono ?_
    rintro r w1 ⟨rfl, hb⟩
    have T0 := Lib.hid (T0.out.below hb)
    have B0 := Lib.hid (B0.out.below hb)
    have HT := Lib.hid (HT.out.below hb)
    have HB := Lib.hid (bcall HB.out hb)
    have HI := Lib.hid (show DRow _ m.la m.ll ∧ SRow _ m.sa m.sl from ⟨HI.out.1.below hb, HI.out.2.below hb⟩)
    clear hb PF c2
    have c2 := T0.out.cell 2 (.string d) rfl
    have HI := Lib.hid (show m.In w1 from ⟨HI.out.1, HI.out.2, HZ.out.1, HZ.out.2.1⟩)
    clear hf hd hs
    go_wp2_with (first | (refine wpList_loadM (b := w.heap.size) (m := m) rfl _ rfl rfl B0.out ?_))
    refine (P1.out _ HI.out HT.out).mono ?_
    rintro r w2 ⟨rfl, hb⟩
    have T0 := Lib.hid (T0.out.below hb)
    have B0 := Lib.hid (B0.out.below hb)
    have HI := Lib.hid (HI.out.below hb)
    have HT := Lib.hid (HT.out.below hb)
    have HB := Lib.hid (bcall HB.out hb)
    clear hb
    clear c2
    go_wp2_with (first | (refine wpList_loadM (b := w.heap.size) (m := m) rfl _ rfl rfl B0.out ?_))
    refine (P2.out _ HI.out HT.out).mono ?_
    rintro r w3 ⟨rfl, hb⟩
    have T0 := Lib.hid (T0.out.below hb)
    have B0 := Lib.hid (B0.out.below hb)
    have HI := Lib.hid (HI.out.below hb)
    have HT := Lib.hid (HT.out.below hb)
    have HB := Lib.hid (bcall HB.out hb)
    clear hb
    clear B0 HI P1 P2
    have c0 := T0.out.cell 0 (.int .i64 t) rfl
    by_cases h910 : t = 9 ∨ t = 10
    rotate_left
    · have e9 : (t == 9) = false := by simpa using (show ¬ t = 9 from fun e => h910 (.inl e))
      have e10 : (t == 10) = false := by simpa using (show ¬ t = 10 from fun e => h910 (.inr e))
      have h9 : ¬ t = 9 := fun e => h910 (.inl e)
      have h10 : ¬ t = 10 := fun e => h910 (.inr e)
      have f9 : (t != 9) = true := by rw [bne, e9]; rfl
      have f10 : (t != 10) = true := by rw [bne, e10]; rfl
      go_wp2_with fail
      refine (awake_any _ HT.out).mono ?_
      rintro r w4 ⟨rfl, hb⟩
      have HB := Lib.hid (bcall HB.out hb)
      clear hb
      go_wp2
      go_ret
      exact ⟨rfl, HB.out⟩
    have P3 := Lib.hid (fun V (q : Tab V) => J6.get_own t a d V h910 (by have := HZ.out.2.2; omega) q)
    have HO := out_len t d h910
    have HL := Lib.hid (show (outJ t d).1.ll = [] ∧ (outJ t d).1.sl.length ≤ 1048576 from ⟨HO.2.1, by have := HO.2.2.2.1; omega⟩)
    have HC := Lib.hid (show (∃ e, outJ t d = (M.zero, false, e)) ∨ ∃ r, outJ t d = (r, true, 0) ∧ okJ r = true ∧ (putJ r).size ≤ d.size + 2 from by
      rcases out_cases (d := d) h910 with ⟨e, h⟩ | ⟨x, _, _, _, h, h1, h2⟩
      · exact .inl ⟨e, h⟩
      · exact .inr ⟨_, h, h1, h2⟩)
    clear HO
    rcases HC.out with ⟨er, hq⟩ | ⟨q, hq, ho, hle⟩
    · rw [hq] at P3 HL
      clear hq HC
      simp only [] at HL
      rcases h910 with rfl | rfl
      · go_wp2_with (first | (refine Bk.wpList_loadK (b := w.heap.size + 1) Tl.shT rfl _ rfl rfl T0.out rfl ?_))
        refine (P3.out _ HT.out).mono ?_
        intro r w4 hr
        obtain ⟨n2, rfl, hi, hp, hb⟩ := hr.at HL.out.1 HL.out.2
        have HT := Lib.hid (HT.out.below hb)
        have HB := Lib.hid (bcall HB.out hb)
        clear hr
        go_upto_region 16 with (refine wpList_storeM (b := w4.heap.size) (m := M.zero) (m' := n2) rfl _ _ rfl rfl rfl (Bx.new w4 M.zero) ?_)
        change Code.wp _ _ _ _ ((w4.alloc (.cells M.zero.cells 25)).setRow w4.heap.size n2.cells)
        rw [World.setRow_alloc_new]
        have bel := balloc (Below.refl w4.heap.size w4) (.cells n2.cells 25)
        clear c0
        have I2 := Lib.hid (hi.below bel)
        have HT := Lib.hid (HT.out.below bel)
        have HB := Lib.hid (bcall HB.out bel)
        have X2 := Lib.hid (Bx.new w4 n2)
        have H2 := Lib.hid hp
        clear hi hp hb bel
        generalize w4.alloc (.cells n2.cells 25) = V2 at *
        generalize w4.heap.size = g2 at *
        have PS := Lib.hid (fun W h h' => RSame.rsame_any n2 M.zero W h h')
        rw [H2.out.same (Pl.refl M.zero), same_self] at PS
        go_wp2_with fail
        refine (awake_any _ HT.out).mono ?_
        rintro r w5 ⟨rfl, hb⟩
        have X2 := Lib.hid (X2.out.below hb)
        have I2 := Lib.hid (I2.out.below hb)
        have HT := Lib.hid (HT.out.below hb)
        have HB := Lib.hid (bcall HB.out hb)
        clear hb
        go_wp2_with (first | (refine st_yes (v := .agg (M.cells n2)) (by rfl) rfl (run_loadM (x := .tmp 13) rfl rfl X2.out) ?_) | (refine st_yes (v := .agg (M.cells M.zero)) (by rfl) rfl (ex_built rfl (by kernel_rfl)) ?_))
        refine (PS.out _ I2.out ⟨DRow.nil _ _, SRow.nil _ _, Nat.zero_le _, Nat.zero_le _⟩).mono ?_
        rintro r w6 ⟨rfl, hb⟩
        have HB := Lib.hid (bcall HB.out hb)
        clear hb
        go_wp2
        go_ret
        exact ⟨rfl, HB.out⟩
      · go_wp2_with (first | (refine Bk.wpList_loadK (b := w.heap.size + 1) Tl.shT rfl _ rfl rfl T0.out rfl ?_))
        refine (P3.out _ HT.out).mono ?_
        intro r w4 hr
        obtain ⟨n2, rfl, hi, hp, hb⟩ := hr.at HL.out.1 HL.out.2
        have HT := Lib.hid (HT.out.below hb)
        have HB := Lib.hid (bcall HB.out hb)
        clear hr
        go_upto_region 16 with (refine wpList_storeM (b := w4.heap.size) (m := M.zero) (m' := n2) rfl _ _ rfl rfl rfl (Bx.new w4 M.zero) ?_)
        change Code.wp _ _ _ _ ((w4.alloc (.cells M.zero.cells 25)).setRow w4.heap.size n2.cells)
        rw [World.setRow_alloc_new]
        have bel := balloc (Below.refl w4.heap.size w4) (.cells n2.cells 25)
        clear c0
        have I2 := Lib.hid (hi.below bel)
        have HT := Lib.hid (HT.out.below bel)
        have HB := Lib.hid (bcall HB.out bel)
        have X2 := Lib.hid (Bx.new w4 n2)
        have H2 := Lib.hid hp
        clear hi hp hb bel
        generalize w4.alloc (.cells n2.cells 25) = V2 at *
        generalize w4.heap.size = g2 at *
        have PS := Lib.hid (fun W h h' => RSame.rsame_any n2 M.zero W h h')
        rw [H2.out.same (Pl.refl M.zero), same_self] at PS
        go_wp2_with fail
        refine (awake_any _ HT.out).mono ?_
        rintro r w5 ⟨rfl, hb⟩
        have X2 := Lib.hid (X2.out.below hb)
        have I2 := Lib.hid (I2.out.below hb)
        have HT := Lib.hid (HT.out.below hb)
        have HB := Lib.hid (bcall HB.out hb)
        clear hb
        go_wp2_with (first | (refine st_yes (v := .agg (M.cells n2)) (by rfl) rfl (run_loadM (x := .tmp 13) rfl rfl X2.out) ?_) | (refine st_yes (v := .agg (M.cells M.zero)) (by rfl) rfl (ex_built rfl (by kernel_rfl)) ?_))
        refine (PS.out _ I2.out ⟨DRow.nil _ _, SRow.nil _ _, Nat.zero_le _, Nat.zero_le _⟩).mono ?_
        rintro r w6 ⟨rfl, hb⟩
        have HB := Lib.hid (bcall HB.out hb)
        clear hb
        go_wp2
        go_ret
        exact ⟨rfl, HB.out⟩
    have PP := Lib.hid (fun (n : M) (hn : Pl n q) W (h : n.In W) (y : Tab W) => J3.put_any n W h (by rw [hn.sl]; have := okS_len ((ok_iff q).1 ho).subs; omega) (by rw [hn.sl]; exact okS_mem ((ok_iff q).1 ho).subs) (by rw [ok_pfx hn]; exact ok_size ho) y)
    have PR := Lib.hid (fun (n : M) (hn : Pl n q) W (h : n.In W) (y : Tab W) => Jr.right_any n W h (by rw [hn.sl]; exact okS_mem ((ok_iff q).1 ho).subs) (by rw [ok_pfx hn]; exact ok_size ho) y)
    have HK := Lib.hid (fun (n : M) (hn : Pl n q) => ok_pl hn ho)
    have hle2 : ((putJ q).size : Int) ≤ (d.size : Int) + 2 := by omega
    have hd2 : (d.size : Int) ≤ 255 := by have := HZ.out.2.2; omega
    rw [hq] at P3 HL
    clear hq ho hle HC
    simp only [] at HL
    generalize putJ q = u at *
    rcases h910 with rfl | rfl
    · go_wp2_with (first | (refine Bk.wpList_loadK (b := w.heap.size + 1) Tl.shT rfl _ rfl rfl T0.out rfl ?_))
      refine (P3.out _ HT.out).mono ?_
      intro r w4 hr
      obtain ⟨n2, rfl, hi, hp, hb⟩ := hr.at HL.out.1 HL.out.2
      have T0 := Lib.hid (T0.out.below hb)
      have HT := Lib.hid (HT.out.below hb)
      have HB := Lib.hid (bcall HB.out hb)
      clear hr
      go_upto_region 16 with (refine wpList_storeM (b := w4.heap.size) (m := M.zero) (m' := n2) rfl _ _ rfl rfl rfl (Bx.new w4 M.zero) ?_)
      change Code.wp _ _ _ _ ((w4.alloc (.cells M.zero.cells 25)).setRow w4.heap.size n2.cells)
      rw [World.setRow_alloc_new]
      have bel := balloc (Below.refl w4.heap.size w4) (.cells n2.cells 25)
      have T0 := Lib.hid (T0.out.below bel)
      clear c0
      have I2 := Lib.hid (hi.below bel)
      have HT := Lib.hid (HT.out.below bel)
      have HB := Lib.hid (bcall HB.out bel)
      have X2 := Lib.hid (Bx.new w4 n2)
      have H2 := Lib.hid hp
      clear hi hp hb bel
      generalize w4.alloc (.cells n2.cells 25) = V2 at *
      generalize w4.heap.size = g2 at *
      have PP := Lib.hid (PP.out n2 H2.out)
      have PR := Lib.hid (PR.out n2 H2.out)
      obtain ⟨k4, k5⟩ := HK.out n2 H2.out
      rw [k4, k5] at PP
      rw [k4] at PR
      clear k4 k5 HK
      go_wp2_with (first | (refine wpList_loadM (b := g2) (m := n2) rfl _ rfl rfl X2.out ?_))
      refine (PP.out _ I2.out HT.out).mono ?_
      rintro r w5 ⟨rfl, hb⟩
      have T0 := Lib.hid (T0.out.below hb)
      have X2 := Lib.hid (X2.out.below hb)
      have I2 := Lib.hid (I2.out.below hb)
      have HT := Lib.hid (HT.out.below hb)
      have HB := Lib.hid (bcall HB.out hb)
      clear hb
      go_wp2_with fail
      refine (awake_any _ HT.out).mono ?_
      rintro r w6 ⟨rfl, hb⟩
      have T0 := Lib.hid (T0.out.below hb)
      have X2 := Lib.hid (X2.out.below hb)
      have I2 := Lib.hid (I2.out.below hb)
      have HT := Lib.hid (HT.out.below hb)
      have HB := Lib.hid (bcall HB.out hb)
      clear hb
      go_wp2_with (first | (refine st_yes (v := .agg (M.cells n2)) (by rfl) rfl (run_loadM (x := .tmp 13) rfl rfl X2.out) ?_))
      refine (PR.out _ I2.out HT.out).mono ?_
      rintro r w7 ⟨rfl, hb⟩
      have T0 := Lib.hid (T0.out.below hb)
      have HB := Lib.hid (bcall HB.out hb)
      clear hb
      have c2 := T0.out.cell 2 (.string d) rfl
      go_wp2
      go_ret
      exact ⟨rfl, HB.out⟩
    · go_wp2_with (first | (refine Bk.wpList_loadK (b := w.heap.size + 1) Tl.shT rfl _ rfl rfl T0.out rfl ?_))
      refine (P3.out _ HT.out).mono ?_
      intro r w4 hr
      obtain ⟨n2, rfl, hi, hp, hb⟩ := hr.at HL.out.1 HL.out.2
      have T0 := Lib.hid (T0.out.below hb)
      have HT := Lib.hid (HT.out.below hb)
      have HB := Lib.hid (bcall HB.out hb)
      clear hr
      go_upto_region 16 with (refine wpList_storeM (b := w4.heap.size) (m := M.zero) (m' := n2) rfl _ _ rfl rfl rfl (Bx.new w4 M.zero) ?_)
      change Code.wp _ _ _ _ ((w4.alloc (.cells M.zero.cells 25)).setRow w4.heap.size n2.cells)
      rw [World.setRow_alloc_new]
      have bel := balloc (Below.refl w4.heap.size w4) (.cells n2.cells 25)
      have T0 := Lib.hid (T0.out.below bel)
      clear c0
      have I2 := Lib.hid (hi.below bel)
      have HT := Lib.hid (HT.out.below bel)
      have HB := Lib.hid (bcall HB.out bel)
      have X2 := Lib.hid (Bx.new w4 n2)
      have H2 := Lib.hid hp
      clear hi hp hb bel
      generalize w4.alloc (.cells n2.cells 25) = V2 at *
      generalize w4.heap.size = g2 at *
      have PP := Lib.hid (PP.out n2 H2.out)
      have PR := Lib.hid (PR.out n2 H2.out)
      obtain ⟨k4, k5⟩ := HK.out n2 H2.out
      rw [k4, k5] at PP
      rw [k4] at PR
      clear k4 k5 HK
      go_wp2_with (first | (refine wpList_loadM (b := g2) (m := n2) rfl _ rfl rfl X2.out ?_))
      refine (PP.out _ I2.out HT.out).mono ?_
      rintro r w5 ⟨rfl, hb⟩
      have T0 := Lib.hid (T0.out.below hb)
      have X2 := Lib.hid (X2.out.below hb)
      have I2 := Lib.hid (I2.out.below hb)
      have HT := Lib.hid (HT.out.below hb)
      have HB := Lib.hid (bcall HB.out hb)
      clear hb
      go_wp2_with fail
      refine (awake_any _ HT.out).mono ?_
      rintro r w6 ⟨rfl, hb⟩
      have T0 := Lib.hid (T0.out.below hb)
      have X2 := Lib.hid (X2.out.below hb)
      have I2 := Lib.hid (I2.out.below hb)
      have HT := Lib.hid (HT.out.below hb)
      have HB := Lib.hid (bcall HB.out hb)
      clear hb
      go_wp2_with (first | (refine st_yes (v := .agg (M.cells n2)) (by rfl) rfl (run_loadM (x := .tmp 13) rfl rfl X2.out) ?_))
      refine (PR.out _ I2.out HT.out).mono ?_
      rintro r w7 ⟨rfl, hb⟩
      have T0 := Lib.hid (T0.out.below hb)
      have HB := Lib.hid (bcall HB.out hb)
      clear hb
      have c2 := T0.out.cell 2 (.string d) rfl
      go_wp2
      go_ret
      exact ⟨rfl, HB.out⟩
  have PSp := Lib.hid (fun W => F5.rsplit_own (putJ m) 0 W (by have := putJ_le m; omega) (by omega) (by omega))
  rw [split_put hok] at PSp
  have hty := (fld_len hok).2
  have PG := Lib.hid (fun V (q : Tab V) => J6.get_own (typJ m) 0 (datJ m) V hty (by have := dat_le hok; omega) q)
  rw [put_back hok] at PG
  have HS := Lib.hid (own_same hok)
  have HLk := Lib.hid (show ({ Own.ownM m with sa := none, sc := 0 } : M).ll = [] ∧ ({ Own.ownM m with sa := none, sc := 0 } : M).sl.length ≤ 1048576 from ⟨HS.out.2.2.1, by show (Own.ownM m).sl.length ≤ _; rw [HS.out.2.2.2.2]; exact HZ.out.2.1⟩)
  have HS := Lib.hid HS.out.1
  have HW := Lib.hid (show IntKind.i64.wrap (m.kind - 3) = typJ m from by
    rcases kind_cases ((ok_iff m).1 hok).kind with k | ⟨k, _⟩
    · rw [k, (f_12 k).1]; rfl
    · rw [k, (f_13 k).1]; rfl)
  rw [hok] at P1 P2
  clear hok
  generalize ({ Own.ownM m with sa := none, sc := 0 } : M) = km at *
  generalize putJ m = z at *
  generalize datJ m = da at *
  generalize typJ m = ty at *
  have ety : (ty == ty) = true := by simp
  go_enter Tryd.func5, Tryd.ntmps5
  go_upto_region 1 with fail
  change Code.wp _ _ _ _ ((w.alloc (.cells m.cells 25)).alloc (.cells (cellsT (a, (d, t))) 35))
  have bel := balloc (balloc (Below.refl _ w) (.cells m.cells 25)) (.cells (cellsT (a, (d, t))) 35)
  have T0 := Bk.Bk.new 35 (w.alloc (.cells m.cells 25)) (cellsT (a, (d, t)))
  rw [Bk.alloc_size] at T0
  have T0 := Lib.hid T0
  have B0 := Lib.hid ((Bx.new w m).old (.cells (cellsT (a, (d, t))) 35))
  have HT := Lib.hid (HT0.out.below bel)
  have HB := Lib.hid bel
  have HI := Lib.hid (show DRow _ m.la m.ll ∧ SRow _ m.sa m.sl from ⟨hd.below bel, hs.below bel⟩)
  have PF := Lib.hid (Few.few_any m _ HI.out.1 HI.out.2)
  clear bel
  generalize (w.alloc (.cells m.cells 25)).alloc (.cells (cellsT (a, (d, t))) 35) = V at *
  have c2 := T0.out.cell 2 (.string d) rfl
  rw [hf] at PF
  go_wp2_with (first | (refine wpList_loadM (b := w.heap.size) (m := m) rfl _ rfl rfl B0.out ?_))
  refine PF.out.mono ?_
  rintro r w1 ⟨rfl, hb⟩
  have T0 := Lib.hid (T0.out.below hb)
  have B0 := Lib.hid (B0.out.below hb)
  have HT := Lib.hid (HT.out.below hb)
  have HB := Lib.hid (bcall HB.out hb)
  have HI := Lib.hid (show DRow _ m.la m.ll ∧ SRow _ m.sa m.sl from ⟨HI.out.1.below hb, HI.out.2.below hb⟩)
  clear hb PF c2
  have c2 := T0.out.cell 2 (.string d) rfl
  have HI := Lib.hid (show m.In w1 from ⟨HI.out.1, HI.out.2, HZ.out.1, HZ.out.2.1⟩)
  clear hf hd hs
  go_wp2_with (first | (refine wpList_loadM (b := w.heap.size) (m := m) rfl _ rfl rfl B0.out ?_))
  refine (P1.out _ HI.out HT.out).mono ?_
  rintro r w2 ⟨rfl, hb⟩
  have T0 := Lib.hid (T0.out.below hb)
  have B0 := Lib.hid (B0.out.below hb)
  have HI := Lib.hid (HI.out.below hb)
  have HT := Lib.hid (HT.out.below hb)
  have HB := Lib.hid (bcall HB.out hb)
  clear hb
  clear c2
  go_wp2_with (first | (refine wpList_loadM (b := w.heap.size) (m := m) rfl _ rfl rfl B0.out ?_))
  refine (P2.out _ HI.out HT.out).mono ?_
  rintro r w3 ⟨rfl, hb⟩
  have T0 := Lib.hid (T0.out.below hb)
  have B0 := Lib.hid (B0.out.below hb)
  have HI := Lib.hid (HI.out.below hb)
  have HT := Lib.hid (HT.out.below hb)
  have HB := Lib.hid (bcall HB.out hb)
  clear hb
  go_wp2_with fail
  refine (PSp.out _).mono ?_
  rintro r w4 ⟨sa, sc, rfl, hl, hb⟩
  have T0 := Lib.hid (T0.out.below hb)
  have B0 := Lib.hid (B0.out.below hb)
  have HI := Lib.hid (HI.out.below hb)
  have HT := Lib.hid (HT.out.below hb)
  have HB := Lib.hid (bcall HB.out hb)
  have HR := Lib.hid hl.row
  clear hb hl PSp P1 P2
  dsimp only [List.length_cons, List.length_nil]
  obtain ⟨p, rfl, hp, e0, e1, e2⟩ := HR.out 0 (by simp)
  simp only [List.getElem_cons_zero] at e0 e1 e2
  rw [add_nul3] at e0 e1 e2
  have HC := Lib.hid (one_cells (x := (0, (da, ty))) e0 e1 e2)
  clear e1 e2 hp HR
  have HL := HLk
  have k0 := B0.out.cs.c0
  go_upto_region 8 with fail
  refine wp_region_held_drew (S := fun W => W.cell? p = some (.int .i64 ty) ∧ W.cell? ⟨w.heap.size, 0, none⟩ = some (.int .i64 m.kind)) (by kernel_rfl) ⟨e0, k0⟩ (fun hS => ?_)
  have T0 := Lib.hid (show Bk 35 w4.drew (w.heap.size + 1) (cellsT (a, (d, t))) from T0.out)
  have B0 := Lib.hid (show Bx w4.drew w.heap.size m from B0.out)
  have HI := Lib.hid (show m.In w4.drew from ⟨HI.out.d, HI.out.s, HI.out.dl, HI.out.sl⟩)
  have HT := Lib.hid HT.out.drew
  have HB := Lib.hid HB.out.drew
  have HC := Lib.hid (show ∀ j v, ((cellsT (0, (da, ty))).toList)[j]? = some v → w4.drew.cell? (p.add j) = some v from HC.out)
  clear e0 k0
  generalize w4.drew = X0 at *
  refine H.tk (i := 0) (v := ?v0) ?h0 hS ?_
  case h0 => (intro w hw; go_simp; first | done | (with_reducible rfl))
  try simp only [Act.put, List.setIfInBounds_toArray, List.set_cons_zero, List.set_cons_succ]
  refine H.tk (i := 1) (v := .bool false) ?h1 hS ?_
  case h1 => exact (fun w hw => by go_simp)
  try simp only [Act.put, List.setIfInBounds_toArray, List.set_cons_zero, List.set_cons_succ]
  refine H.tk (i := 2) (v := (.bool false)) (fun w _ => rfl) hS ?_
  try simp only [Act.put, List.setIfInBounds_toArray, List.set_cons_zero, List.set_cons_succ]
  refine H.tk (i := 3) (v := ?v3) ?h3 hS ?_
  case h3 => (intro w hw; go_simp; first | done | (with_reducible rfl))
  try simp only [Act.put, List.setIfInBounds_toArray, List.set_cons_zero, List.set_cons_succ]
  refine H.tk (i := 4) (v := .int .i64 1) ?h4 hS ?_
  case h4 => exact (fun w hw => by go_simp)
  try simp only [Act.put, List.setIfInBounds_toArray, List.set_cons_zero, List.set_cons_succ]
  refine H.tk (i := 5) (v := .bool false) ?h5 hS ?_
  case h5 => exact (fun w hw => by go_simp)
  try simp only [Act.put, List.setIfInBounds_toArray, List.set_cons_zero, List.set_cons_succ]
  refine H.tk (i := 6) (v := (.bool false)) (fun w _ => rfl) hS ?_
  try simp only [Act.put, List.setIfInBounds_toArray, List.set_cons_zero, List.set_cons_succ]
  refine H.tk (i := 7) (v := (.bool false)) (fun w _ => rfl) hS ?_
  try simp only [Act.put, List.setIfInBounds_toArray, List.set_cons_zero, List.set_cons_succ]
  refine H.tk (i := 8) (v := ?v8) ?h8 hS ?_
  case h8 => (intro w hw; go_simp; first | done | (with_reducible rfl))
  try simp only [Act.put, List.setIfInBounds_toArray, List.set_cons_zero, List.set_cons_succ]
  refine H.tk (i := 9) (v := .pointer (some p)) ?h9 hS ?_
  case h9 => exact (fun w hw => by go_simp)
  try simp only [Act.put, List.setIfInBounds_toArray, List.set_cons_zero, List.set_cons_succ]
  refine H.tk (i := 10) (v := .pointer (some p)) ?h10 hS ?_
  case h10 => exact (fun w hw => by go_simp)
  try simp only [Act.put, List.setIfInBounds_toArray, List.set_cons_zero, List.set_cons_succ]
  refine H.tk (i := 11) (v := .int .i64 ty) ?h11 hS ?_
  case h11 => exact (fun w hw => by have c := hw.1; go_simp)
  try simp only [Act.put, List.setIfInBounds_toArray, List.set_cons_zero, List.set_cons_succ]
  refine H.tk (i := 12) (v := ?v12) ?h12 hS ?_
  case h12 => (intro w hw; go_simp; first | done | (with_reducible rfl))
  try simp only [Act.put, List.setIfInBounds_toArray, List.set_cons_zero, List.set_cons_succ]
  refine H.tk (i := 13) (v := .int .i64 m.kind) ?h13 hS ?_
  case h13 => exact (fun w hw => by have c := hw.2; go_simp)
  try simp only [Act.put, List.setIfInBounds_toArray, List.set_cons_zero, List.set_cons_succ]
  refine H.tk (i := 14) (v := .int .i64 ty) ?h14 hS ?_
  case h14 => exact (fun w hw => by go_simp; rw [HW.out])
  try simp only [Act.put, List.setIfInBounds_toArray, List.set_cons_zero, List.set_cons_succ]
  refine H.tk (i := 15) (v := .bool false) ?h15 hS ?_
  case h15 => exact (fun w hw => by go_simp)
  try simp only [Act.put, List.setIfInBounds_toArray, List.set_cons_zero, List.set_cons_succ]
  refine H.tk (i := 16) (v := (.bool false)) (fun w _ => rfl) hS ?_
  try simp only [Act.put, List.setIfInBounds_toArray, List.set_cons_zero, List.set_cons_succ]
  refine wpAnyH_done (by kernel_rfl) ?_ _
  clear hS HW
  go_wp2_with (first | (refine wpList_loadT (q := p) (m := (0, (da, ty))) rfl _ rfl rfl HC.out ?_))
  refine (PG.out _ HT.out).mono ?_
  intro r w5 hr
  obtain ⟨n1, rfl, hi, hp, hb⟩ := hr.at HL.out.1 HL.out.2
  have T0 := Lib.hid (T0.out.below hb)
  have B0 := Lib.hid (B0.out.below hb)
  have HI := Lib.hid (HI.out.below hb)
  have HT := Lib.hid (HT.out.below hb)
  have HB := Lib.hid (bcall HB.out hb)
  clear hr
  go_upto_region 11 with (refine wpList_storeM (b := w5.heap.size) (m := M.zero) (m' := n1) rfl _ _ rfl rfl rfl (Bx.new w5 M.zero) ?_)
  change Code.wp _ _ _ _ ((w5.alloc (.cells M.zero.cells 25)).setRow w5.heap.size n1.cells)
  rw [World.setRow_alloc_new]
  have bel := balloc (Below.refl w5.heap.size w5) (.cells n1.cells 25)
  have T0 := Lib.hid (T0.out.below bel)
  have B0 := Lib.hid (B0.out.below bel)
  have HI := Lib.hid (HI.out.below bel)
  clear HC PG HL HLk
  have I1 := Lib.hid (hi.below bel)
  have HT := Lib.hid (HT.out.below bel)
  have HB := Lib.hid (bcall HB.out bel)
  have X1 := Lib.hid (Bx.new w5 n1)
  have H1 := Lib.hid hp
  clear hi hp hb bel
  generalize w5.alloc (.cells n1.cells 25) = V1 at *
  generalize w5.heap.size = g1 at *
  have PS := Lib.hid (fun W h h' => RSame.rsame_any m n1 W h h')
  rw [(Pl.refl m).same H1.out, HS.out] at PS
  go_wp2_with (first | (refine st_yes (v := .agg (M.cells m)) (by rfl) rfl (run_loadM (x := .tmp 2) rfl rfl B0.out) ?_) | (refine st_yes (v := .agg (M.cells n1)) (by rfl) rfl (run_loadM (x := .tmp 10) rfl rfl X1.out) ?_))
  refine (PS.out _ HI.out I1.out).mono ?_
  rintro r w6 ⟨rfl, hb⟩
  have T0 := Lib.hid (T0.out.below hb)
  have HT := Lib.hid (HT.out.below hb)
  have HB := Lib.hid (bcall HB.out hb)
  clear hb B0 HI X1 I1 H1 PS HS ety
  have c0 := T0.out.cell 0 (.int .i64 t) rfl
  by_cases h910 : t = 9 ∨ t = 10
  rotate_left
  · have e9 : (t == 9) = false := by simpa using (show ¬ t = 9 from fun e => h910 (.inl e))
    have e10 : (t == 10) = false := by simpa using (show ¬ t = 10 from fun e => h910 (.inr e))
    have h9 : ¬ t = 9 := fun e => h910 (.inl e)
    have h10 : ¬ t = 10 := fun e => h910 (.inr e)
    have f9 : (t != 9) = true := by rw [bne, e9]; rfl
    have f10 : (t != 10) = true := by rw [bne, e10]; rfl
    go_wp2_with fail
    refine (awake_any _ HT.out).mono ?_
    rintro r w7 ⟨rfl, hb⟩
    have HB := Lib.hid (bcall HB.out hb)
    clear hb
    go_wp2
    go_ret
    exact ⟨rfl, HB.out⟩
  have P3 := Lib.hid (fun V (q : Tab V) => J6.get_own t a d V h910 (by have := HZ.out.2.2; omega) q)
  have HO := out_len t d h910
  have HL := Lib.hid (show (outJ t d).1.ll = [] ∧ (outJ t d).1.sl.length ≤ 1048576 from ⟨HO.2.1, by have := HO.2.2.2.1; omega⟩)
  have HC := Lib.hid (show (∃ e, outJ t d = (M.zero, false, e)) ∨ ∃ r, outJ t d = (r, true, 0) ∧ okJ r = true ∧ (putJ r).size ≤ d.size + 2 from by
    rcases out_cases (d := d) h910 with ⟨e, h⟩ | ⟨x, _, _, _, h, h1, h2⟩
    · exact .inl ⟨e, h⟩
    · exact .inr ⟨_, h, h1, h2⟩)
  clear HO
  rcases HC.out with ⟨er, hq⟩ | ⟨q, hq, ho, hle⟩
  · rw [hq] at P3 HL
    clear hq HC
    simp only [] at HL
    rcases h910 with rfl | rfl
    · go_wp2_with (first | (refine Bk.wpList_loadK (b := w.heap.size + 1) Tl.shT rfl _ rfl rfl T0.out rfl ?_))
      refine (P3.out _ HT.out).mono ?_
      intro r w7 hr
      obtain ⟨n2, rfl, hi, hp, hb⟩ := hr.at HL.out.1 HL.out.2
      have HT := Lib.hid (HT.out.below hb)
      have HB := Lib.hid (bcall HB.out hb)
      clear hr
      go_upto_region 16 with (refine wpList_storeM (b := w7.heap.size) (m := M.zero) (m' := n2) rfl _ _ rfl rfl rfl (Bx.new w7 M.zero) ?_)
      change Code.wp _ _ _ _ ((w7.alloc (.cells M.zero.cells 25)).setRow w7.heap.size n2.cells)
      rw [World.setRow_alloc_new]
      have bel := balloc (Below.refl w7.heap.size w7) (.cells n2.cells 25)
      clear c0
      have I2 := Lib.hid (hi.below bel)
      have HT := Lib.hid (HT.out.below bel)
      have HB := Lib.hid (bcall HB.out bel)
      have X2 := Lib.hid (Bx.new w7 n2)
      have H2 := Lib.hid hp
      clear hi hp hb bel
      generalize w7.alloc (.cells n2.cells 25) = V2 at *
      generalize w7.heap.size = g2 at *
      have PS := Lib.hid (fun W h h' => RSame.rsame_any n2 M.zero W h h')
      rw [H2.out.same (Pl.refl M.zero), same_self] at PS
      go_wp2_with fail
      refine (awake_any _ HT.out).mono ?_
      rintro r w8 ⟨rfl, hb⟩
      have X2 := Lib.hid (X2.out.below hb)
      have I2 := Lib.hid (I2.out.below hb)
      have HT := Lib.hid (HT.out.below hb)
      have HB := Lib.hid (bcall HB.out hb)
      clear hb
      go_wp2_with (first | (refine st_yes (v := .agg (M.cells n2)) (by rfl) rfl (run_loadM (x := .tmp 13) rfl rfl X2.out) ?_) | (refine st_yes (v := .agg (M.cells M.zero)) (by rfl) rfl (ex_built rfl (by kernel_rfl)) ?_))
      refine (PS.out _ I2.out ⟨DRow.nil _ _, SRow.nil _ _, Nat.zero_le _, Nat.zero_le _⟩).mono ?_
      rintro r w9 ⟨rfl, hb⟩
      have HB := Lib.hid (bcall HB.out hb)
      clear hb
      go_wp2
      go_ret
      exact ⟨rfl, HB.out⟩
    · go_wp2_with (first | (refine Bk.wpList_loadK (b := w.heap.size + 1) Tl.shT rfl _ rfl rfl T0.out rfl ?_))
      refine (P3.out _ HT.out).mono ?_
      intro r w7 hr
      obtain ⟨n2, rfl, hi, hp, hb⟩ := hr.at HL.out.1 HL.out.2
      have HT := Lib.hid (HT.out.below hb)
      have HB := Lib.hid (bcall HB.out hb)
      clear hr
      go_upto_region 16 with (refine wpList_storeM (b := w7.heap.size) (m := M.zero) (m' := n2) rfl _ _ rfl rfl rfl (Bx.new w7 M.zero) ?_)
      change Code.wp _ _ _ _ ((w7.alloc (.cells M.zero.cells 25)).setRow w7.heap.size n2.cells)
      rw [World.setRow_alloc_new]
      have bel := balloc (Below.refl w7.heap.size w7) (.cells n2.cells 25)
      clear c0
      have I2 := Lib.hid (hi.below bel)
      have HT := Lib.hid (HT.out.below bel)
      have HB := Lib.hid (bcall HB.out bel)
      have X2 := Lib.hid (Bx.new w7 n2)
      have H2 := Lib.hid hp
      clear hi hp hb bel
      generalize w7.alloc (.cells n2.cells 25) = V2 at *
      generalize w7.heap.size = g2 at *
      have PS := Lib.hid (fun W h h' => RSame.rsame_any n2 M.zero W h h')
      rw [H2.out.same (Pl.refl M.zero), same_self] at PS
      go_wp2_with fail
      refine (awake_any _ HT.out).mono ?_
      rintro r w8 ⟨rfl, hb⟩
      have X2 := Lib.hid (X2.out.below hb)
      have I2 := Lib.hid (I2.out.below hb)
      have HT := Lib.hid (HT.out.below hb)
      have HB := Lib.hid (bcall HB.out hb)
      clear hb
      go_wp2_with (first | (refine st_yes (v := .agg (M.cells n2)) (by rfl) rfl (run_loadM (x := .tmp 13) rfl rfl X2.out) ?_) | (refine st_yes (v := .agg (M.cells M.zero)) (by rfl) rfl (ex_built rfl (by kernel_rfl)) ?_))
      refine (PS.out _ I2.out ⟨DRow.nil _ _, SRow.nil _ _, Nat.zero_le _, Nat.zero_le _⟩).mono ?_
      rintro r w9 ⟨rfl, hb⟩
      have HB := Lib.hid (bcall HB.out hb)
      clear hb
      go_wp2
      go_ret
      exact ⟨rfl, HB.out⟩
  have PP := Lib.hid (fun (n : M) (hn : Pl n q) W (h : n.In W) (y : Tab W) => J3.put_any n W h (by rw [hn.sl]; have := okS_len ((ok_iff q).1 ho).subs; omega) (by rw [hn.sl]; exact okS_mem ((ok_iff q).1 ho).subs) (by rw [ok_pfx hn]; exact ok_size ho) y)
  have PR := Lib.hid (fun (n : M) (hn : Pl n q) W (h : n.In W) (y : Tab W) => Jr.right_any n W h (by rw [hn.sl]; exact okS_mem ((ok_iff q).1 ho).subs) (by rw [ok_pfx hn]; exact ok_size ho) y)
  have HK := Lib.hid (fun (n : M) (hn : Pl n q) => ok_pl hn ho)
  have hle2 : ((putJ q).size : Int) ≤ (d.size : Int) + 2 := by omega
  have hd2 : (d.size : Int) ≤ 255 := by have := HZ.out.2.2; omega
  rw [hq] at P3 HL
  clear hq ho hle HC
  simp only [] at HL
  generalize putJ q = u at *
  rcases h910 with rfl | rfl
  · go_wp2_with (first | (refine Bk.wpList_loadK (b := w.heap.size + 1) Tl.shT rfl _ rfl rfl T0.out rfl ?_))
    refine (P3.out _ HT.out).mono ?_
    intro r w7 hr
    obtain ⟨n2, rfl, hi, hp, hb⟩ := hr.at HL.out.1 HL.out.2
    have T0 := Lib.hid (T0.out.below hb)
    have HT := Lib.hid (HT.out.below hb)
    have HB := Lib.hid (bcall HB.out hb)
    clear hr
    go_upto_region 16 with (refine wpList_storeM (b := w7.heap.size) (m := M.zero) (m' := n2) rfl _ _ rfl rfl rfl (Bx.new w7 M.zero) ?_)
    change Code.wp _ _ _ _ ((w7.alloc (.cells M.zero.cells 25)).setRow w7.heap.size n2.cells)
    rw [World.setRow_alloc_new]
    have bel := balloc (Below.refl w7.heap.size w7) (.cells n2.cells 25)
    have T0 := Lib.hid (T0.out.below bel)
    clear c0
    have I2 := Lib.hid (hi.below bel)
    have HT := Lib.hid (HT.out.below bel)
    have HB := Lib.hid (bcall HB.out bel)
    have X2 := Lib.hid (Bx.new w7 n2)
    have H2 := Lib.hid hp
    clear hi hp hb bel
    generalize w7.alloc (.cells n2.cells 25) = V2 at *
    generalize w7.heap.size = g2 at *
    have PP := Lib.hid (PP.out n2 H2.out)
    have PR := Lib.hid (PR.out n2 H2.out)
    obtain ⟨k4, k5⟩ := HK.out n2 H2.out
    rw [k4, k5] at PP
    rw [k4] at PR
    clear k4 k5 HK
    go_wp2_with (first | (refine wpList_loadM (b := g2) (m := n2) rfl _ rfl rfl X2.out ?_))
    refine (PP.out _ I2.out HT.out).mono ?_
    rintro r w8 ⟨rfl, hb⟩
    have T0 := Lib.hid (T0.out.below hb)
    have X2 := Lib.hid (X2.out.below hb)
    have I2 := Lib.hid (I2.out.below hb)
    have HT := Lib.hid (HT.out.below hb)
    have HB := Lib.hid (bcall HB.out hb)
    clear hb
    go_wp2_with fail
    refine (awake_any _ HT.out).mono ?_
    rintro r w9 ⟨rfl, hb⟩
    have T0 := Lib.hid (T0.out.below hb)
    have X2 := Lib.hid (X2.out.below hb)
    have I2 := Lib.hid (I2.out.below hb)
    have HT := Lib.hid (HT.out.below hb)
    have HB := Lib.hid (bcall HB.out hb)
    clear hb
    go_wp2_with (first | (refine st_yes (v := .agg (M.cells n2)) (by rfl) rfl (run_loadM (x := .tmp 13) rfl rfl X2.out) ?_))
    refine (PR.out _ I2.out HT.out).mono ?_
    rintro r w10 ⟨rfl, hb⟩
    have T0 := Lib.hid (T0.out.below hb)
    have HB := Lib.hid (bcall HB.out hb)
    clear hb
    have c2 := T0.out.cell 2 (.string d) rfl
    go_wp2
    go_ret
    exact ⟨rfl, HB.out⟩
  · go_wp2_with (first | (refine Bk.wpList_loadK (b := w.heap.size + 1) Tl.shT rfl _ rfl rfl T0.out rfl ?_))
    refine (P3.out _ HT.out).mono ?_
    intro r w7 hr
    obtain ⟨n2, rfl, hi, hp, hb⟩ := hr.at HL.out.1 HL.out.2
    have T0 := Lib.hid (T0.out.below hb)
    have HT := Lib.hid (HT.out.below hb)
    have HB := Lib.hid (bcall HB.out hb)
    clear hr
    go_upto_region 16 with (refine wpList_storeM (b := w7.heap.size) (m := M.zero) (m' := n2) rfl _ _ rfl rfl rfl (Bx.new w7 M.zero) ?_)
    change Code.wp _ _ _ _ ((w7.alloc (.cells M.zero.cells 25)).setRow w7.heap.size n2.cells)
    rw [World.setRow_alloc_new]
    have bel := balloc (Below.refl w7.heap.size w7) (.cells n2.cells 25)
    have T0 := Lib.hid (T0.out.below bel)
    clear c0
    have I2 := Lib.hid (hi.below bel)
    have HT := Lib.hid (HT.out.below bel)
    have HB := Lib.hid (bcall HB.out bel)
    have X2 := Lib.hid (Bx.new w7 n2)
    have H2 := Lib.hid hp
    clear hi hp hb bel
    generalize w7.alloc (.cells n2.cells 25) = V2 at *
    generalize w7.heap.size = g2 at *
    have PP := Lib.hid (PP.out n2 H2.out)
    have PR := Lib.hid (PR.out n2 H2.out)
    obtain ⟨k4, k5⟩ := HK.out n2 H2.out
    rw [k4, k5] at PP
    rw [k4] at PR
    clear k4 k5 HK
    go_wp2_with (first | (refine wpList_loadM (b := g2) (m := n2) rfl _ rfl rfl X2.out ?_))
    refine (PP.out _ I2.out HT.out).mono ?_
    rintro r w8 ⟨rfl, hb⟩
    have T0 := Lib.hid (T0.out.below hb)
    have X2 := Lib.hid (X2.out.below hb)
    have I2 := Lib.hid (I2.out.below hb)
    have HT := Lib.hid (HT.out.below hb)
    have HB := Lib.hid (bcall HB.out hb)
    clear hb
    go_wp2_with fail
    refine (awake_any _ HT.out).mono ?_
    rintro r w9 ⟨rfl, hb⟩
    have T0 := Lib.hid (T0.out.below hb)
    have X2 := Lib.hid (X2.out.below hb)
    have I2 := Lib.hid (I2.out.below hb)
    have HT := Lib.hid (HT.out.below hb)
    have HB := Lib.hid (bcall HB.out hb)
    clear hb
    go_wp2_with (first | (refine st_yes (v := .agg (M.cells n2)) (by rfl) rfl (run_loadM (x := .tmp 13) rfl rfl X2.out) ?_))
    refine (PR.out _ I2.out HT.out).mono ?_
    rintro r w10 ⟨rfl, hb⟩
    have T0 := Lib.hid (T0.out.below hb)
    have HB := Lib.hid (bcall HB.out hb)
    clear hb
    have c2 := T0.out.cell 2 (.string d) rfl
    go_wp2
    go_ret
    exact ⟨rfl, HB.out⟩

theorem own : ownKnob Tryd.prog.godebug = none := by kernel_rfl

set_option maxRecDepth 100000 in
theorem lifted (os : Os) (started : os.Started) (H : Type) (enc : TypeId × Value → H) :
    ReturnsInHanded {} Tryd.checked os 5 .any (fun w args => (Rows.routeBackSpec.pre enc Tryd.prog Tryd.f5 Rows.routeBackRow.domain false w args ∧ laidMetH Tryd.prog Rows.routeBackRow.laid w) ∧ sizedMet enc Tryd.prog Tryd.f5 (OpenSpec.ofChange Rows.routeBackSpec) false w args)
      (Rows.routeBackSpec.post enc Tryd.prog Tryd.f5 false true false false) := by
  refine returnsInHanded_of_change_and (C := Tryd.checked) (X := fun w _ => laidMetH Tryd.prog Rows.routeBackRow.laid w) (fun _ _ _ hh h => h.of_heap hh) own started (by kernel_rfl) Tryd.func5
    (ChangeSpec.witness_shaped (enc := enc) (C := Tryd.checked) (os := os) (X := fun w _ => laidMetH Tryd.prog Rows.routeBackRow.laid w) false (World.laidAll Tryd.prog os Rows.routeBackRow.laid) #[.agg M.zero.cells, .agg #[.int .i64 0, .int .i64 0, .string ByteArray.empty]] 8 (World.laidAll_os _ _ _)
      (World.shaped_of_ZipB (by kernel_rfl) (by kernel_rfl)) (by kernel_rfl) (by kernel_rfl) (by kernel_rfl)
      (by rw [MakeChecks.laidMetH_plain _ _ _ (by kernel_rfl)]; exact laidMet_laidAll _ (by kernel_rfl) (by kernel_rfl))) ?_
  intro W base args ds gs before hval0 hW _ _ hL0 _
  have hMet := of_laid hL0
  have hval : ∀ (j : Nat) t v, Tryd.f5.params[j]? = some t → args[j]? = some v → Value.okWide Tryd.prog W .any base t v := hval0
  have hW' := hW
  have hlt := fun x hx => hW'.lt x hx
  obtain ⟨p, q, hA0, hV, rfl, hfz, hnd⟩ := hW
  have hA : DataW.TrodAll enc Tryd.prog W 0 (fun _ => true) true Tryd.f5.params.toList args.toList ds p := hA0
  rw [Tryd.params5] at hA hval
  obtain ⟨v0, vs0, d0, ds0, p0, q0, hargs, rfl, rfl, h0, r0⟩ := trodAll_cons hA
  obtain ⟨v1, vs1, d1, ds1, p1, q1, rfl, rfl, rfl, h1, r1⟩ := trodAll_cons r0
  obtain ⟨rfl, rfl, rfl⟩ := trodAll_nil r1
  obtain rfl : args = #[v0, v1] := by cases args; simp_all
  obtain ⟨rfl, rfl⟩ := trodVars_none hV
  obtain ⟨m, rfl, hd, hs, hpx⟩ := by_valueP (hval 0 25 v0 rfl rfl) h0
  obtain ⟨a, d, t, rfl, hz⟩ := by_tlv (hval 1 35 v1 rfl rfl) h1
  clear hA0 hval0
  simp only [List.append_nil] at hW' hlt
  refine (walk m a t d W hd hs hpx hz hMet).mono fun e W' ⟨he, hg⟩ => ?_
  subst he
  exact ⟨_, rfl, _, _, _, [], _, [], hW', trodAll_mk1 (shut_bool Tryd.underlying4 _), (trodAll_cons_mk (again (by kernel_rfl) (of_decide_eq_true (by kernel_rfl)) h0 hg fun x hx => hlt x (by first | exact absurd hx (by simp) | simp [hx])) (trodAll_cons_mk (again (by kernel_rfl) (of_decide_eq_true (by kernel_rfl)) h1 hg fun x hx => hlt x (by first | exact absurd hx (by simp) | simp [hx])) trodAll_mk0)), rfl, hg.frame _, fun h => by cases h⟩

theorem over : Rows.RouteBackSaid :=
  OpenClaim.holds_of_wide 5 Tryd.f5 rfl rfl rfl rfl rfl rfl rfl ⟨rfl, rfl, rfl, rfl, rfl⟩ rfl rfl rfl rfl rfl (by kernel_rfl) Tryd.func5 (by kernel_rfl)
    (of_decide_eq_true (by kernel_rfl)) (by unfold Func.isWrapper; first | (rw [if_pos (by decide +kernel)]; kernel_rfl) | (rw [if_neg (by decide +kernel)]; exact ⟨rfl, rfl⟩))
    (fun os started H enc _ => lifted os started H enc)

theorem proved : Rows.RouteBackCardSaid :=
  Claim7.holds_tied_plain_at .later [] _ true _ _
    over (fun _ h => by cases h) (by kernel_rfl) (fun _ h => by cases h) routeBack_row_tie rfl ⟨rfl, rfl⟩ (by kernel_rfl) rfl
    (fun f fn hf hfn => by
      obtain rfl : f = 5 := Option.some.inj ((show Tryd.prog.funcNamed "roadbook/roadbooklaw21.RouteBack" = some 5 by kernel_rfl).symm.trans hf) |>.symm
      obtain rfl : fn = Tryd.f5 := (Option.some.inj (Tryd.func5.symm.trans hfn)).symm
      exact ⟨by kernel_rfl, fun j t ht => by
        rw [Tryd.params5] at ht
        have hm : t ∈ [25, 35] := by simpa using Array.mem_of_getElem? ht
        have hall : ([25, 35].all fun u => !Tryd.prog.wantsStandIn u) = true := by kernel_rfl
        exact (show Tryd.prog.wantsStandIn t = false by simpa using List.all_eq_true.1 hall t hm)⟩)
    (by kernel_rfl)
#print axioms proved
end Go.Proofs.YtkhdllhlhpkekaaDoor.routeBack
