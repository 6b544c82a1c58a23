/-
  The statement RouteGets, of any TLV. Condition: the listed variable has what the program's text lays it with (the tied card).
-/
import Derived.Test.YtkhdllhlhpkekaaDoorJ9
import Derived.Test.YtkhdllhlhpkekaaDoorCards
import Derived.Test.YtkhdllhlhpkekaaDoorTie
import Derived.Lay
import Derived.SevenTiedAt
import Derived.Stop.Joined
namespace Go.Proofs.YtkhdllhlhpkekaaDoor.routeGets
open Go.ChangeShapes Go.WideShapes Go.ChangeAt Go.RowKit
open Go.ChangeMaps (open_string shut_string)
open Go.Proofs.YtkhdllhlhpkekaaDoor.Ms
open Go.Proofs.YtkhdllhlhpkekaaDoor.Box
open Go.Proofs.YtkhdllhlhpkekaaDoor.S1
open Go.Proofs.YtkhdllhlhpkekaaDoor.J1
open Go.Proofs.YtkhdllhlhpkekaaDoor.An
open Go.Proofs.YtkhdllhlhpkekaaDoor.Tc
open Go.Proofs.YtkhdllhlhpkekaaDoor.J9
open Go.Proofs.YtkhdllhlhpkekaaDoor.Hs
open Go.Proofs.YtkhdllhlhpkekaaDoor.Open
set_option linter.unusedVariables false

open Go.Proofs.YtkhdllhlhpkekaaDoor.Tl (cellsT)
open Go.Proofs.YtkhdllhlhpkekaaDoor.Or (st_yes)
open Go.Proofs.YtkhdllhlhpkekaaDoor.Hx (ex_built)
open Go.Proofs.YtkhdllhlhpkekaaDoor.Bk (Bk)
open Go.Proofs.YtkhdllhlhpkekaaDoor.J4 (shU wpList_loadU wpList_storeU)
open Go.Proofs.YtkhdllhlhpkekaaDoor.J6 (AnsU)

set_option maxHeartbeats 12800000 in
set_option maxRecDepth 100000 in
theorem walk (a t : Int) (d : ByteArray) (w : World) (hm : d.size ≤ maxLen) (ht : Tab w) :
    Calls Tryd.prog 4 #[.agg (cellsT (a, (d, t)))] w fun r w' => r = .returned (.bool true) ∧ Below w.heap.size w w' := by
  unfold maxLen at hm
  by_cases h2 : 8 ≤ t
  rotate_left
  · go_enter Tryd.func4, Tryd.ntmps4
    go_upto_region 1 with fail
    have T0 := Lib.hid (Bk.Bk.new 35 w (cellsT (a, (d, t))))
    have HB := Lib.hid (balloc (Below.refl _ w) (.cells (cellsT (a, (d, t))) 35))
    have HT := Lib.hid (ht.below HB.out)
    clear ht
    change Code.wp _ _ _ _ (w.alloc (.cells (cellsT (a, (d, t))) 35))
    generalize w.alloc (.cells (cellsT (a, (d, t))) 35) = V at *
    have c0 := T0.out.cell 0 (.int .i64 t) rfl
    have c2 := T0.out.cell 2 (.string d) rfl
    go_wp2_with fail
    refine (awake_any _ HT.out).mono ?_
    rintro r w2 ⟨rfl, hb⟩
    have HB := Lib.hid (bcall HB.out hb)
    clear hb
    go_wp2
    go_ret
    exact ⟨rfl, HB.out⟩
  by_cases h5 : t ≤ 10
  rotate_left
  · go_enter Tryd.func4, Tryd.ntmps4
    go_upto_region 1 with fail
    have T0 := Lib.hid (Bk.Bk.new 35 w (cellsT (a, (d, t))))
    have HB := Lib.hid (balloc (Below.refl _ w) (.cells (cellsT (a, (d, t))) 35))
    have HT := Lib.hid (ht.below HB.out)
    clear ht
    change Code.wp _ _ _ _ (w.alloc (.cells (cellsT (a, (d, t))) 35))
    generalize w.alloc (.cells (cellsT (a, (d, t))) 35) = V at *
    have c0 := T0.out.cell 0 (.int .i64 t) rfl
    have c2 := T0.out.cell 2 (.string d) rfl
    go_wp2_with fail
    refine (awake_any _ HT.out).mono ?_
    rintro r w2 ⟨rfl, hb⟩
    have HB := Lib.hid (bcall HB.out hb)
    clear hb
    go_wp2
    go_ret
    exact ⟨rfl, HB.out⟩
  by_cases hz : d.size ≤ 300
  rotate_left
  · have hz2 : 300 < (d.size : Int) := by omega
    go_enter Tryd.func4, Tryd.ntmps4
    go_upto_region 1 with fail
    have T0 := Lib.hid (Bk.Bk.new 35 w (cellsT (a, (d, t))))
    have HB := Lib.hid (balloc (Below.refl _ w) (.cells (cellsT (a, (d, t))) 35))
    have HT := Lib.hid (ht.below HB.out)
    clear ht
    change Code.wp _ _ _ _ (w.alloc (.cells (cellsT (a, (d, t))) 35))
    generalize w.alloc (.cells (cellsT (a, (d, t))) 35) = V at *
    have c0 := T0.out.cell 0 (.int .i64 t) rfl
    have c2 := T0.out.cell 2 (.string d) rfl
    go_wp2_with fail
    refine (awake_any _ HT.out).mono ?_
    rintro r w2 ⟨rfl, hb⟩
    have HB := Lib.hid (bcall HB.out hb)
    clear hb
    go_wp2
    go_ret
    exact ⟨rfl, HB.out⟩
  have hz2 : ¬ 300 < (d.size : Int) := by omega
  by_cases h8 : t = 8
  · subst h8
    have P1 := Lib.hid (fun V (q : Tab V) => J6.take_own a d V (by omega) q)
    have P2 := Lib.hid (fun V => Jt.rtake_own a d V (by omega))
    have HO := outK_len d
    have HL := Lib.hid (show (outK d).1.sl.length ≤ 1048576 from by have := HO.1; omega)
    clear HO hm
    generalize outK d = p at *
    obtain ⟨q, y, x⟩ := p
    simp only [] at HL
    have e1 := bool_same y
    have e2 := int_same x
    go_enter Tryd.func4, Tryd.ntmps4
    go_upto_region 1 with fail
    have T0 := Lib.hid (Bk.Bk.new 35 w (cellsT (a, (d, 8))))
    have HB := Lib.hid (balloc (Below.refl _ w) (.cells (cellsT (a, (d, 8))) 35))
    have HT := Lib.hid (ht.below HB.out)
    clear ht
    change Code.wp _ _ _ _ (w.alloc (.cells (cellsT (a, (d, 8))) 35))
    generalize w.alloc (.cells (cellsT (a, (d, 8))) 35) = V at *
    have c0 := T0.out.cell 0 (.int .i64 8) rfl
    have c2 := T0.out.cell 2 (.string d) rfl
    go_wp2_with (first | (refine Bk.wpList_loadK (b := w.heap.size) Tl.shT rfl _ rfl rfl T0.out rfl ?_))
    refine (P1.out _ HT.out).mono ?_
    intro r w1 hr
    obtain ⟨sa1, sc1, rfl, hl, hb⟩ := hr
    have T0 := Lib.hid (T0.out.below hb)
    have HT := Lib.hid (HT.out.below hb)
    have HB := Lib.hid (bcall HB.out hb)
    go_upto_region 5 with (refine wpList_storeU (b := w1.heap.size) (m := Up.zero) (m' := { q with sa := sa1, sc := sc1 }) rfl _ _ rfl rfl rfl (Bk.Bk.new 37 w1 Up.zero.cells) ?_)
    change Code.wp _ _ _ _ ((w1.alloc (.cells Up.zero.cells 37)).setRow w1.heap.size (Up.cells { q with sa := sa1, sc := sc1 }))
    rw [World.setRow_alloc_new]
    have bel := balloc (Below.refl w1.heap.size w1) (.cells (Up.cells { q with sa := sa1, sc := sc1 }) 37)
    have T0 := Lib.hid (T0.out.below bel)
    clear c0 c2
    have I1 := Lib.hid (hl.row.below bel)
    have HT := Lib.hid (HT.out.below bel)
    have HB := Lib.hid (bcall HB.out bel)
    have X1 := Lib.hid (Bk.Bk.new 37 w1 (Up.cells { q with sa := sa1, sc := sc1 }))
    clear hl hb bel
    generalize w1.alloc (.cells (Up.cells { q with sa := sa1, sc := sc1 }) 37) = V1 at *
    generalize w1.heap.size = g1 at *
    go_wp2_with (first | (refine Bk.wpList_loadK (b := w.heap.size) Tl.shT rfl _ rfl rfl T0.out rfl ?_))
    refine (P2.out _).mono ?_
    intro r w2 hr
    obtain ⟨sa2, sc2, rfl, hl, hb⟩ := hr
    have X1 := Lib.hid (X1.out.below hb)
    have HT := Lib.hid (HT.out.below hb)
    have HB := Lib.hid (bcall HB.out hb)
    go_upto_region 6 with (refine wpList_storeU (b := w2.heap.size) (m := Up.zero) (m' := { q with sa := sa2, sc := sc2 }) rfl _ _ rfl rfl rfl (Bk.Bk.new 37 w2 Up.zero.cells) ?_)
    change Code.wp _ _ _ _ ((w2.alloc (.cells Up.zero.cells 37)).setRow w2.heap.size (Up.cells { q with sa := sa2, sc := sc2 }))
    rw [World.setRow_alloc_new]
    have bel := balloc (Below.refl w2.heap.size w2) (.cells (Up.cells { q with sa := sa2, sc := sc2 }) 37)
    have X1 := Lib.hid (X1.out.below bel)
    have I1 := Lib.hid ((I1.out.below hb).below bel)
    have I2 := Lib.hid (hl.row.below bel)
    have HT := Lib.hid (HT.out.below bel)
    have HB := Lib.hid (bcall HB.out bel)
    have X2 := Lib.hid (Bk.Bk.new 37 w2 (Up.cells { q with sa := sa2, sc := sc2 }))
    clear hl hb bel
    generalize w2.alloc (.cells (Up.cells { q with sa := sa2, sc := sc2 }) 37) = V2 at *
    generalize w2.heap.size = g2 at *
    go_wp2_with fail
    refine (awake_any _ HT.out).mono ?_
    rintro r w3 ⟨rfl, hb⟩
    have X1 := Lib.hid (X1.out.below hb)
    have X2 := Lib.hid (X2.out.below hb)
    have I1 := Lib.hid (I1.out.below hb)
    have I2 := Lib.hid (I2.out.below hb)
    have HB := Lib.hid (bcall HB.out hb)
    clear hb
    have PS := Lib.hid (rsameU q sa1 sa2 sc1 sc2 w3 I1.out I2.out HL.out)
    go_wp2_with (first | (refine st_yes (v := .agg (Up.cells { q with sa := sa1, sc := sc1 })) (by rfl) rfl (Bk.run_loadK shU (x := .tmp 3) rfl rfl X1.out rfl) ?_) | (refine st_yes (v := .agg (Up.cells { q with sa := sa2, sc := sc2 })) (by rfl) rfl (Bk.run_loadK shU (x := .tmp 6) rfl rfl X2.out rfl) ?_))
    refine PS.out.mono ?_
    rintro r w4 ⟨rfl, hb⟩
    have HB := Lib.hid (bcall HB.out hb)
    clear hb
    go_wp2
    go_ret
    exact ⟨rfl, HB.out⟩
  have h910 : t = 9 ∨ t = 10 := by omega
  have e8 : (t == 8) = false := by simpa using h8
  have P1 := Lib.hid (fun V (q : Tab V) => J6.get_own t a d V h910 (by omega) q)
  have P2 := Lib.hid (fun V => J8.rget_own t a d V h910 (by omega))
  have HO := out_len t d h910
  have HL := Lib.hid (show (outJ t d).1.ll = [] ∧ (outJ t d).1.sl.length ≤ 1048576 from ⟨HO.2.1, by have := HO.2.2.2.1; omega⟩)
  clear HO hm h910 h8
  generalize outJ t d = p at *
  obtain ⟨q, y, x⟩ := p
  simp only [] at HL
  have e1 := bool_same y
  have e2 := int_same x
  go_enter Tryd.func4, Tryd.ntmps4
  go_upto_region 1 with fail
  have T0 := Lib.hid (Bk.Bk.new 35 w (cellsT (a, (d, t))))
  have HB := Lib.hid (balloc (Below.refl _ w) (.cells (cellsT (a, (d, t))) 35))
  have HT := Lib.hid (ht.below HB.out)
  clear ht
  change Code.wp _ _ _ _ (w.alloc (.cells (cellsT (a, (d, t))) 35))
  generalize w.alloc (.cells (cellsT (a, (d, t))) 35) = V at *
  have c0 := T0.out.cell 0 (.int .i64 t) rfl
  have c2 := T0.out.cell 2 (.string d) rfl
  go_wp2_with (first | (refine Bk.wpList_loadK (b := w.heap.size) Tl.shT rfl _ rfl rfl T0.out rfl ?_))
  refine (P1.out _ HT.out).mono ?_
  intro r w1 hr
  obtain ⟨n1, rfl, hi, hp, hb⟩ := hr.at HL.out.1 HL.out.2
  have T0 := Lib.hid (T0.out.below hb)
  have HT := Lib.hid (HT.out.below hb)
  have HB := Lib.hid (bcall HB.out hb)
  clear hr
  go_upto_region 8 with (refine wpList_storeM (b := w1.heap.size) (m := M.zero) (m' := n1) rfl _ _ rfl rfl rfl (Bx.new w1 M.zero) ?_)
  change Code.wp _ _ _ _ ((w1.alloc (.cells M.zero.cells 25)).setRow w1.heap.size n1.cells)
  rw [World.setRow_alloc_new]
  have bel := balloc (Below.refl w1.heap.size w1) (.cells n1.cells 25)
  have T0 := Lib.hid (T0.out.below bel)
  clear c0 c2
  have I1 := Lib.hid (hi.below bel)
  have HT := Lib.hid (HT.out.below bel)
  have HB := Lib.hid (bcall HB.out bel)
  have X1 := Lib.hid (Bx.new w1 n1)
  have H1 := Lib.hid hp
  clear hi hp hb bel
  generalize w1.alloc (.cells n1.cells 25) = V1 at *
  generalize w1.heap.size = g1 at *
  go_wp2_with (first | (refine Bk.wpList_loadK (b := w.heap.size) Tl.shT rfl _ rfl rfl T0.out rfl ?_))
  refine (P2.out _).mono ?_
  intro r w2 hr
  obtain ⟨n2, rfl, hi, hp, hb⟩ := hr.at HL.out.1 HL.out.2
  have X1 := Lib.hid (X1.out.below hb)
  have I1 := Lib.hid (I1.out.below hb)
  have HT := Lib.hid (HT.out.below hb)
  have HB := Lib.hid (bcall HB.out hb)
  clear hr
  go_upto_region 9 with (refine wpList_storeM (b := w2.heap.size) (m := M.zero) (m' := n2) rfl _ _ rfl rfl rfl (Bx.new w2 M.zero) ?_)
  change Code.wp _ _ _ _ ((w2.alloc (.cells M.zero.cells 25)).setRow w2.heap.size n2.cells)
  rw [World.setRow_alloc_new]
  have bel := balloc (Below.refl w2.heap.size w2) (.cells n2.cells 25)
  have X1 := Lib.hid (X1.out.below bel)
  have I1 := Lib.hid (I1.out.below bel)
  have I2 := Lib.hid (hi.below bel)
  have HT := Lib.hid (HT.out.below bel)
  have HB := Lib.hid (bcall HB.out bel)
  have X2 := Lib.hid (Bx.new w2 n2)
  have H2 := Lib.hid hp
  clear hi hp hb bel
  generalize w2.alloc (.cells n2.cells 25) = V2 at *
  generalize w2.heap.size = g2 at *
  have PS := Lib.hid (fun W h h' => RSame.rsame_any n1 n2 W h h')
  rw [H1.out.same H2.out, same_self] at PS
  go_wp2_with fail
  refine (awake_any _ HT.out).mono ?_
  rintro r w3 ⟨rfl, hb⟩
  have X1 := Lib.hid (X1.out.below hb)
  have I1 := Lib.hid (I1.out.below hb)
  have X2 := Lib.hid (X2.out.below hb)
  have I2 := Lib.hid (I2.out.below hb)
  have HT := Lib.hid (HT.out.below hb)
  have HB := Lib.hid (bcall HB.out hb)
  clear hb
  go_wp2_with (first | (refine st_yes (v := .agg (M.cells n1)) (by rfl) rfl (run_loadM (x := .tmp 9) rfl rfl X1.out) ?_) | (refine st_yes (v := .agg (M.cells n2)) (by rfl) rfl (run_loadM (x := .tmp 12) rfl rfl X2.out) ?_))
  refine (PS.out _ I1.out I2.out).mono ?_
  rintro r w4 ⟨rfl, hb⟩
  have HB := Lib.hid (bcall HB.out hb)
  clear hb
  go_wp2
  go_ret
  exact ⟨rfl, HB.out⟩

theorem own : ownKnob Tryd.prog.godebug = none := by kernel_rfl

set_option maxRecDepth 100000 in
theorem lifted (os : Os) (started : os.Started) (H : Type) (enc : TypeId × Value → H) :
    ReturnsInHanded {} Tryd.checked os 4 .any (fun w args => (Rows.routeGetsSpec.pre enc Tryd.prog Tryd.f4 Rows.routeGetsRow.domain false w args ∧ laidMetH Tryd.prog Rows.routeGetsRow.laid w) ∧ sizedMet enc Tryd.prog Tryd.f4 (OpenSpec.ofChange Rows.routeGetsSpec) false w args)
      (Rows.routeGetsSpec.post enc Tryd.prog Tryd.f4 false true false false) := by
  refine returnsInHanded_of_change_and (C := Tryd.checked) (X := fun w _ => laidMetH Tryd.prog Rows.routeGetsRow.laid w) (fun _ _ _ hh h => h.of_heap hh) own started (by kernel_rfl) Tryd.func4
    (ChangeSpec.witness_shaped (enc := enc) (C := Tryd.checked) (os := os) (X := fun w _ => laidMetH Tryd.prog Rows.routeGetsRow.laid w) false (World.laidAll Tryd.prog os Rows.routeGetsRow.laid) #[.agg #[.int .i64 0, .int .i64 0, .string ByteArray.empty]] 8 (World.laidAll_os _ _ _)
      (World.shaped_of_ZipB (by kernel_rfl) (by kernel_rfl)) (by kernel_rfl) (by kernel_rfl) (by kernel_rfl)
      (by rw [MakeChecks.laidMetH_plain _ _ _ (by kernel_rfl)]; exact laidMet_laidAll _ (by kernel_rfl) (by kernel_rfl))) ?_
  intro W base args ds gs before hval0 hW _ _ hL0 _
  have hMet := of_laid hL0
  have hval : ∀ (j : Nat) t v, Tryd.f4.params[j]? = some t → args[j]? = some v → Value.okWide Tryd.prog W .any base t v := hval0
  have hW' := hW
  have hlt := fun x hx => hW'.lt x hx
  obtain ⟨p, q, hA0, hV, rfl, hfz, hnd⟩ := hW
  have hA : DataW.TrodAll enc Tryd.prog W 0 (fun _ => true) true Tryd.f4.params.toList args.toList ds p := hA0
  rw [Tryd.params4] at hA hval
  obtain ⟨v0, vs0, d0, ds0, p0, q0, hargs, rfl, rfl, h0, r0⟩ := trodAll_cons hA
  obtain ⟨rfl, rfl, rfl⟩ := trodAll_nil r0
  obtain rfl : args = #[v0] := by cases args; simp_all
  obtain ⟨rfl, rfl⟩ := trodVars_none hV
  obtain ⟨a, d, t, rfl, hz⟩ := by_tlv (hval 0 35 v0 rfl rfl) h0
  clear hA0 hval0
  simp only [List.append_nil] at hW' hlt
  refine (walk a t d W hz hMet).mono fun e W' ⟨he, hg⟩ => ?_
  subst he
  exact ⟨_, rfl, _, _, _, [], _, [], hW', trodAll_mk1 (shut_bool Tryd.underlying4 _), (trodAll_cons_mk (again (by kernel_rfl) (of_decide_eq_true (by kernel_rfl)) h0 hg fun x hx => hlt x (by first | exact absurd hx (by simp) | simp [hx])) trodAll_mk0), rfl, hg.frame _, fun h => by cases h⟩

theorem over : Rows.RouteGetsSaid :=
  OpenClaim.holds_of_wide 4 Tryd.f4 rfl rfl rfl rfl rfl rfl rfl ⟨rfl, rfl, rfl, rfl, rfl⟩ rfl rfl rfl rfl rfl (by kernel_rfl) Tryd.func4 (by kernel_rfl)
    (of_decide_eq_true (by kernel_rfl)) (by unfold Func.isWrapper; first | (rw [if_pos (by decide +kernel)]; kernel_rfl) | (rw [if_neg (by decide +kernel)]; exact ⟨rfl, rfl⟩))
    (fun os started H enc _ => lifted os started H enc)

theorem proved : Rows.RouteGetsCardSaid :=
  Claim7.holds_tied_plain_at .later [] _ true _ _
    over (fun _ h => by cases h) (by kernel_rfl) (fun _ h => by cases h) routeGets_row_tie rfl ⟨rfl, rfl⟩ (by kernel_rfl) rfl
    (fun f fn hf hfn => by
      obtain rfl : f = 4 := Option.some.inj ((show Tryd.prog.funcNamed "roadbook/roadbooklaw21.RouteGets" = some 4 by kernel_rfl).symm.trans hf) |>.symm
      obtain rfl : fn = Tryd.f4 := (Option.some.inj (Tryd.func4.symm.trans hfn)).symm
      exact ⟨by kernel_rfl, fun j t ht => by
        rw [Tryd.params4] at ht
        have hm : t ∈ [35] := by simpa using Array.mem_of_getElem? ht
        have hall : ([35].all fun u => !Tryd.prog.wantsStandIn u) = true := by kernel_rfl
        exact (show Tryd.prog.wantsStandIn t = false by simpa using List.all_eq_true.1 hall t hm)⟩)
    (by kernel_rfl)
#print axioms proved
end Go.Proofs.YtkhdllhlhpkekaaDoor.routeGets
