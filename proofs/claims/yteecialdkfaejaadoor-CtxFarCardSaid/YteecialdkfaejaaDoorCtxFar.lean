/-
  The statement CtxFar, of any thing known and any bytes. Condition: the listed variables have what the program's text lays them with (the tied card).
-/
import Derived.Test.YteecialdkfaejaaDoorP9
import Derived.Test.YteecialdkfaejaaDoorCards
import Derived.Test.YteecialdkfaejaaDoorTie
import Derived.Lay
import Derived.SevenTiedAt
import Derived.Stop.Joined
namespace Go.Proofs.YteecialdkfaejaaDoor.ctxFar
open Go.ChangeShapes Go.WideShapes Go.ChangeAt Go.RowKit
open Go.ChangeMaps (open_string shut_string)
open Go.Proofs.YteecialdkfaejaaDoor.Ms
open Go.Proofs.YteecialdkfaejaaDoor.Box
open Go.Proofs.YteecialdkfaejaaDoor.All
open Go.Proofs.YteecialdkfaejaaDoor.J1
open Go.Proofs.YteecialdkfaejaaDoor.An
open Go.Proofs.YteecialdkfaejaaDoor.Tc
open Go.Proofs.YteecialdkfaejaaDoor.K1
open Go.Proofs.YteecialdkfaejaaDoor.Kb
open Go.Proofs.YteecialdkfaejaaDoor.K2
open Go.Proofs.YteecialdkfaejaaDoor.K9
open Go.Proofs.YteecialdkfaejaaDoor.Hs
open Go.Proofs.YteecialdkfaejaaDoor.Open
set_option linter.unusedVariables false

open Go.Proofs.YteecialdkfaejaaDoor.Nu (text_eq ext_list)
open Go.Proofs.YteecialdkfaejaaDoor.J2 (nil_eq nil_em)
open Go.Proofs.YteecialdkfaejaaDoor.Tl (cellsT TRow)
open Go.Proofs.YteecialdkfaejaaDoor.Or (st_yes)
open Go.Proofs.YteecialdkfaejaaDoor.Hx (ex_built)
open Go.Proofs.YteecialdkfaejaaDoor.Hy (H.one H.two wp_valW)
open Go.Proofs.YteecialdkfaejaaDoor.Bk (Bk wpList_builtK run_loadK alloc_size)
open Go.Proofs.YteecialdkfaejaaDoor.F1 (bt bt_nn bt_lt)
open Go.Proofs.YteecialdkfaejaaDoor.F2 (idx sl_m sl_l)
open Go.Proofs.YteecialdkfaejaaDoor.K8 (sl_h)
/-- What is known, but for the router-id and the next hops. -/
def cP (c : Kx) : Kx := ⟨c.p0, c.p1, c.p2, c.p3, ByteArray.empty, ByteArray.empty, ByteArray.empty⟩
theorem cP_ok {c : Kx} (h : okC c = true) : okC (cP c) = true := by
  have g := (okc_iff c).1 h
  exact (okc_iff _).2 ⟨g.p0, g.p1, g.p2, g.p3, .inl rfl, .inl rfl, .inl rfl⟩
theorem cP_alike (c : Kx) : K1.Alike c (cP c) := ⟨rfl, rfl, rfl, rfl⟩
theorem ex_eq4 {o : Oper} {ρ : Operand → Value} {x y : Operand} {a b c e : ByteArray} {w : World} (ho : o.op = .binOp .eql 24 x y 24) (hx : ρ x = .agg #[.string a, .string b, .string c, .string e]) (hy : ρ y = .agg #[.string a, .string b, .string c, .string e]) : (execOp ρ o).run Tryd.prog w = .ok (.value (.bool true)) w := by
  unfold execOp
  simp only [ho, hx, hy, Sem.run_bind, guard_4, Result.andThen_ok, eql_4, Sem.run_pure]
theorem infoTl : (Tryd.prog.info? 29).map (·.size) = some 3 := by kernel_rfl
theorem far_num {d : ByteArray} (h : 10 ≤ d.size) : num2 (d.extract 0 8 ++ ⟨#[255, 255]⟩ ++ d.extract 10 d.size) 8 = 65535 := by
  unfold num2
  rw [ByteArray.data_append, ByteArray.data_append, Array.toList_append, Array.toList_append, ext_list, List.drop_zero]
  have h8 : (d.data.toList.take (8 - 0)).length = 8 := by rw [List.length_take, size_list]; omega
  rw [List.append_assoc, List.drop_append, h8, List.drop_of_length_le (by rw [h8]; exact Nat.le_refl _)]
  rfl

set_option maxHeartbeats 25600000 in
set_option maxRecDepth 100000 in
theorem walk (c : Kx) (d : ByteArray) (w : World) (hf : Fit c) (hm : d.size ≤ maxLen) (ht : Tab w) :
    Calls Tryd.prog 5 #[.agg c.cells, .string d] w fun r w' => r = .returned (.bool true) ∧ Below w.heap.size w w' := by
  unfold maxLen at hm
  have PO := Lib.hid (fun V => Ko.rok_any c V)
  have S0 := Lib.hid (Bk.Bk.new 27 w c.cells)
  have HB := Lib.hid (balloc (Below.refl _ w) (.cells c.cells 27))
  have HT := Lib.hid (ht.below HB.out)
  have h1 := ht.pos
  clear ht hf
  by_cases hc : okC c = true
  rotate_left
  · have hc : okC c = false := by simpa using hc
    rw [hc] at PO
    clear hc
    go_enter Tryd.func5, Tryd.ntmps5
    go_upto_region 1 with fail
    change Code.wp _ _ _ _ (w.alloc (.cells c.cells 27))
    generalize w.alloc (.cells c.cells 27) = V at *
    go_wp2_with (first | (refine wpList_loadX (b := w.heap.size) (m := c) rfl _ rfl rfl S0.out ?_))
    refine (PO.out _).mono ?_
    rintro r w1 ⟨rfl, hb⟩
    have S0 := Lib.hid (S0.out.below hb)
    have HT := Lib.hid (HT.out.below hb)
    have HB := Lib.hid (bcall HB.out hb)
    clear hb PO
    go_wp2_with fail
    refine (awake_any _ HT.out).mono ?_
    rintro r w2 ⟨rfl, hb⟩
    have HB := Lib.hid (bcall HB.out hb)
    clear hb
    go_wp2
    go_ret
    exact ⟨rfl, HB.out⟩
  rw [hc] at PO
  have hid8 := ((okc_iff c).1 hc).id
  have hi : ¬ 100 < (c.id.size : Int) := by omega
  clear hid8
  by_cases h10 : d.size < 10
  · have h10' : (d.size : Int) < 10 := by omega
    clear hc
    go_enter Tryd.func5, Tryd.ntmps5
    go_upto_region 1 with fail
    change Code.wp _ _ _ _ (w.alloc (.cells c.cells 27))
    generalize w.alloc (.cells c.cells 27) = V at *
    go_wp2_with (first | (refine wpList_loadX (b := w.heap.size) (m := c) rfl _ rfl rfl S0.out ?_))
    refine (PO.out _).mono ?_
    rintro r w1 ⟨rfl, hb⟩
    have S0 := Lib.hid (S0.out.below hb)
    have HT := Lib.hid (HT.out.below hb)
    have HB := Lib.hid (bcall HB.out hb)
    clear hb PO
    have s6 := S0.out.cell 6 (.string c.id) rfl
    go_wp2_with fail
    refine (awake_any _ HT.out).mono ?_
    rintro r w2 ⟨rfl, hb⟩
    have HB := Lib.hid (bcall HB.out hb)
    clear hb
    go_wp2
    go_ret
    exact ⟨rfl, HB.out⟩
  have h10' : ¬ (d.size : Int) < 10 := by omega
  by_cases h255 : 255 < d.size
  · have h255' : 255 < (d.size : Int) := by omega
    clear hc
    go_enter Tryd.func5, Tryd.ntmps5
    go_upto_region 1 with fail
    change Code.wp _ _ _ _ (w.alloc (.cells c.cells 27))
    generalize w.alloc (.cells c.cells 27) = V at *
    go_wp2_with (first | (refine wpList_loadX (b := w.heap.size) (m := c) rfl _ rfl rfl S0.out ?_))
    refine (PO.out _).mono ?_
    rintro r w1 ⟨rfl, hb⟩
    have S0 := Lib.hid (S0.out.below hb)
    have HT := Lib.hid (HT.out.below hb)
    have HB := Lib.hid (bcall HB.out hb)
    clear hb PO
    have s6 := S0.out.cell 6 (.string c.id) rfl
    go_wp2_with fail
    refine (awake_any _ HT.out).mono ?_
    rintro r w2 ⟨rfl, hb⟩
    have HB := Lib.hid (bcall HB.out hb)
    clear hb
    go_wp2
    go_ret
    exact ⟨rfl, HB.out⟩
  have h255' : ¬ 255 < (d.size : Int) := by omega
  have hnum := far_num (d := d) (by omega)
  have s8 := sl_h d 8 8 rfl (by omega)
  have s10 := sl_l d 10 10 d.size rfl (by omega) rfl
  have hz1 : (d.extract 0 8).size = 8 := by rw [ext_size _ _ _ (by omega)]
  have hz2 : (d.extract 10 d.size).size ≤ 255 := by simp; omega
  have hcat1 : ∀ W : World, (Op.stringOp .add (d.extract 0 8) ⟨#[255, 255]⟩).run Tryd.prog W = .ok (.string (d.extract 0 8 ++ ⟨#[255, 255]⟩)) W := fun W => run_string_add_sum W _ _ (by rw [hz1]; decide)
  have hz3 : (d.extract 0 8 ++ ⟨#[255, 255]⟩).size = 10 := by rw [ByteArray.size_append, hz1]; rfl
  have hcat2 : ∀ W : World, (Op.stringOp .add (d.extract 0 8 ++ ⟨#[255, 255]⟩) (d.extract 10 d.size)).run Tryd.prog W = .ok (.string (d.extract 0 8 ++ ⟨#[255, 255]⟩ ++ d.extract 10 d.size)) W := fun W => run_string_add_sum W _ _ (by rw [hz3]; omega)
  have hdd : (d.extract 0 8 ++ ⟨#[255, 255]⟩ ++ d.extract 10 d.size).size ≤ 100000 := by rw [ByteArray.size_append, hz3]; omega
  generalize d.extract 0 8 ++ ⟨#[255, 255]⟩ ++ d.extract 10 d.size = dd at *
  generalize d.extract 0 8 ++ ⟨#[255, 255]⟩ = x1 at *
  generalize d.extract 0 8 = y1 at *
  generalize d.extract 10 d.size = y2 at *
  have P1 := Lib.hid (fun V (y : Tab V) => K6.step_any c 0 8 dd V (.inr (.inr rfl)) hc hdd y)
  have P2 := Lib.hid (fun V (y : Tab V) => K6.step_any (cP c) 0 8 dd V (.inr (.inr rfl)) (cP_ok hc) hdd y)
  have P1 := Lib.hid (show ∀ V, Tab V → Calls Tryd.prog 7 #[.agg c.cells, .agg (cellsT (0, (dd, 8)))] V (AnsC (out8 c dd) V) from P1.out)
  have P2 := Lib.hid (show ∀ V, Tab V → Calls Tryd.prog 7 #[.agg (cP c).cells, .agg (cellsT (0, (dd, 8)))] V (AnsC (out8 (cP c) dd) V) from P2.out)
  obtain ⟨f1, f2, f3⟩ := far_same (cP_alike c) dd hnum
  have hsh := out_short 8 dd hc
  have hsh : ∀ m ∈ (out8 c dd).2.1, m.la = none ∧ m.ll = [] ∧ m.lc = 0 ∧ m.sl.length ≤ 100 ∧ ∀ x ∈ m.sl, x.1.size ≤ 1099511627776 := hsh
  have htl := (out_good 8 dd hc).told
  have htl : (out8 c dd).2.1 = [] ∨ ∃ m, (out8 c dd).2.1 = [m] ∧ okU m = true ∧ m.la = none ∧ m.ll = [] ∧ m.lc = 0 := htl
  obtain ⟨cp, hcp⟩ : ∃ x, cP c = x := ⟨_, rfl⟩
  generalize hp1 : out8 c dd = p1 at *
  generalize hp2 : out8 (cP c) dd = p2 at *
  obtain ⟨x, ml, er⟩ := p1
  obtain ⟨y, ml2, er2⟩ := p2
  simp only [Prod.mk.injEq] at f1
  obtain ⟨rfl, rfl⟩ := f1
  simp only [] at f2 f3 hsh htl P1 P2
  have HF := Lib.hid f2
  have HSH := Lib.hid hsh
  have HID := Lib.hid f3
  have HTL := Lib.hid htl
  clear hc hnum hdd f2 f3 hsh htl hcp hp1 hp2 hz1 hz2 hz3
  go_enter Tryd.func5, Tryd.ntmps5
  go_upto_region 1 with fail
  change Code.wp _ _ _ _ (w.alloc (.cells c.cells 27))
  generalize w.alloc (.cells c.cells 27) = V at *
  go_wp2_with (first | (refine wpList_loadX (b := w.heap.size) (m := c) rfl _ rfl rfl S0.out ?_))
  refine (PO.out _).mono ?_
  rintro r w1 ⟨rfl, hb⟩
  have S0 := Lib.hid (S0.out.below hb)
  have HT := Lib.hid (HT.out.below hb)
  have HB := Lib.hid (bcall HB.out hb)
  clear hb PO
  have s6 := S0.out.cell 6 (.string c.id) rfl
  go_upto_region 3 with fail
  clear s6 hi h10 h10' h255 h255'
  refine wp_region_held_drew (S := fun X => Bk 27 X w.heap.size c.cells) (by kernel_rfl) S0.out (fun hS => ?_)
  have HT := Lib.hid HT.out.drew
  have HB := Lib.hid HB.out.drew
  have hlt : w.heap.size < w1.drew.heap.size := S0.out.lt
  clear S0
  generalize w1.drew = X0 at *
  refine H.tk (i := 0) (v := .string d) ?h0 hS ?_
  case h0 => exact (fun w hw => by go_simp)
  try simp only [Act.put, List.setIfInBounds_toArray, List.set_cons_zero, List.set_cons_succ]
  refine H.tk (i := 1) (v := .string y1) ?h1 hS ?_
  case h1 => exact (fun w hw => by go_simp)
  try simp only [Act.put, List.setIfInBounds_toArray, List.set_cons_zero, List.set_cons_succ]
  refine H.tk (i := 2) (v := .string x1) ?h2 hS ?_
  case h2 => exact (fun w hw => by go_simp)
  try simp only [Act.put, List.setIfInBounds_toArray, List.set_cons_zero, List.set_cons_succ]
  refine H.tk (i := 3) (v := .string d) ?h3 hS ?_
  case h3 => exact (fun w hw => by go_simp)
  try simp only [Act.put, List.setIfInBounds_toArray, List.set_cons_zero, List.set_cons_succ]
  refine H.tk (i := 4) (v := .string y2) ?h4 hS ?_
  case h4 => exact (fun w hw => by go_simp)
  try simp only [Act.put, List.setIfInBounds_toArray, List.set_cons_zero, List.set_cons_succ]
  refine H.tk (i := 5) (v := .string dd) ?h5 hS ?_
  case h5 => exact (fun w hw => by go_simp)
  try simp only [Act.put, List.setIfInBounds_toArray, List.set_cons_zero, List.set_cons_succ]
  refine H.tk (i := 6) (v := .agg (cellsT (0, (dd, 8)))) ?h6 hS ?_
  case h6 => exact (fun w hw => ex_built rfl (by kernel_rfl))
  try simp only [Act.put, List.setIfInBounds_toArray, List.set_cons_zero, List.set_cons_succ]
  refine wpAnyH_ready (rs := [7]) (by kernel_rfl) (by simp) ?_
  refine AllReadyH.cons rfl (fun K hK => ?_) AllReadyH.nil
  go_simp
  have hS' := hS.old (.cells #[.int .i64 0, .int .i64 0, .string ByteArray.empty] 29)
  refine hK.out _ _ hS' (fun _ => ?_)
  clear hK K hS
  have hS := hS'
  clear hS'
  try simp only [Act.put, List.setIfInBounds_toArray, List.set_cons_zero, List.set_cons_succ]
  change wpAnyH _ _ _ _ _ _ _ _ (X0.alloc (.cells #[.int .i64 0, .int .i64 0, .string ByteArray.empty] 29))
  have hS' := (show Bk 27 ((X0.alloc (.cells #[.int .i64 0, .int .i64 0, .string ByteArray.empty] 29)).setRow X0.heap.size (cellsT (0, (dd, 8)))) w.heap.size c.cells from hS.row (by omega) _)
  refine Hx.H.storeRow (i := 8) (by simp only [List.getElem?_toArray, List.getElem?_cons_succ, List.getElem?_cons_zero]; rfl) (by kernel_rfl) rfl rfl (by kernel_rfl) X0.heap.size (cellsT (0, (dd, 8))) rfl rfl 29 #[.int .i64 0, .int .i64 0, .string ByteArray.empty] (heap_alloc_new _ _) infoTl rfl (Tl.oneT _) hS' ?_
  clear hS
  have hS := hS'
  clear hS'
  refine wpAnyH_done (by kernel_rfl) ?_ _
  rw [World.setRow_alloc_new]
  have S0 := Lib.hid (show Bk 27 (X0.alloc (.cells (cellsT (0, (dd, 8))) 29)) w.heap.size c.cells by have := hS; rw [World.setRow_alloc_new] at this; exact this)
  have T0 := Lib.hid (Bk.Bk.new 29 X0 (cellsT (0, (dd, 8))))
  have bel := balloc (Below.refl X0.heap.size X0) (.cells (cellsT (0, (dd, 8))) 29)
  have HT := Lib.hid (HT.out.below bel)
  have HB := Lib.hid (bcall HB.out bel)
  clear bel hS
  generalize X0.alloc (.cells (cellsT (0, (dd, 8))) 29) = V2 at *
  generalize X0.heap.size = gt at *
  go_upto_region 5 with (first | (refine wpList_loadAt (b := w.heap.size) (off := 0) (l := [.string c.p0, .string c.p1, .string c.p2, .string c.p3]) rfl _ rfl rfl S0.out (four_in c) (agg4 _) (size4 _) ?_) | (refine wpList_builtK rfl 27 _ rfl (cP c).cells (by kernel_rfl) ?_) | (refine wpList_storeX (b := V2.heap.size) (m := Kx.zero) (m' := cP c) rfl _ _ rfl rfl rfl (Bk.Bk.new 27 V2 Kx.zero.cells) ?_))
  change Code.wp _ _ _ _ ((V2.alloc (.cells Kx.zero.cells 27)).setRow V2.heap.size (cP c).cells)
  rw [World.setRow_alloc_new]
  have S3 := Lib.hid (Bk.Bk.new 27 V2 (cP c).cells)
  have bel := balloc (Below.refl V2.heap.size V2) (.cells (cP c).cells 27)
  have HT := Lib.hid (HT.out.below bel)
  have S0 := Lib.hid (S0.out.below bel)
  have T0 := Lib.hid (T0.out.below bel)
  have HB := Lib.hid (bcall HB.out bel)
  clear bel
  generalize V2.alloc (.cells (cP c).cells 27) = V3 at *
  generalize V2.heap.size = g3 at *
  go_wp2_with (first | (refine wpList_loadX (b := w.heap.size) (m := c) rfl _ rfl rfl S0.out ?_) | (refine Bk.wpList_loadK (b := gt) Tl.shT rfl _ rfl rfl T0.out rfl ?_))
  refine (P1.out _ HT.out).mono ?_
  rintro e w4 ⟨qa1, qk1, l1, rfl, hp1, hm1, hb⟩
  have HT := Lib.hid (HT.out.below hb)
  have S3 := Lib.hid (S3.out.below hb)
  have T0 := Lib.hid (T0.out.below hb)
  have HB := Lib.hid (bcall HB.out hb)
  clear hb
  go_upto_region 6 with (refine wpList_storeX (b := w4.heap.size) (m := Kx.zero) (m' := x) rfl _ _ rfl rfl rfl (Bk.Bk.new 27 w4 Kx.zero.cells) ?_)
  change Code.wp _ _ _ _ ((w4.alloc (.cells Kx.zero.cells 27)).setRow w4.heap.size (Kx.cells x))
  rw [World.setRow_alloc_new]
  have bel := balloc (Below.refl w4.heap.size w4) (.cells (Kx.cells x) 27)
  have HT := Lib.hid (HT.out.below bel)
  have S3 := Lib.hid (S3.out.below bel)
  have T0 := Lib.hid (T0.out.below bel)
  have HB := Lib.hid (bcall HB.out bel)
  have XS1 := Lib.hid (Bk.Bk.new 27 w4 (Kx.cells x))
  have HM1 := Lib.hid (hm1.row.below bel)
  have HP1 := Lib.hid hp1
  clear bel hm1 hp1
  generalize w4.alloc (.cells (Kx.cells x) 27) = V1 at *
  generalize w4.heap.size = g1 at *
  clear P1 S0
  go_wp2_with (first | (refine wpList_loadX (b := g3) (m := (cP c)) rfl _ rfl rfl S3.out ?_) | (refine Bk.wpList_loadK (b := gt) Tl.shT rfl _ rfl rfl T0.out rfl ?_))
  refine (P2.out _ HT.out).mono ?_
  rintro e w5 ⟨qa2, qk2, l2, rfl, hp2, hm2, hb⟩
  have HT := Lib.hid (HT.out.below hb)
  have XS1 := Lib.hid (XS1.out.below hb)
  have HM1 := Lib.hid (HM1.out.below hb)
  have HB := Lib.hid (bcall HB.out hb)
  clear hb
  go_upto_region 7 with (refine wpList_storeX (b := w5.heap.size) (m := Kx.zero) (m' := y) rfl _ _ rfl rfl rfl (Bk.Bk.new 27 w5 Kx.zero.cells) ?_)
  change Code.wp _ _ _ _ ((w5.alloc (.cells Kx.zero.cells 27)).setRow w5.heap.size (Kx.cells y))
  rw [World.setRow_alloc_new]
  have bel := balloc (Below.refl w5.heap.size w5) (.cells (Kx.cells y) 27)
  have HT := Lib.hid (HT.out.below bel)
  have XS1 := Lib.hid (XS1.out.below bel)
  have HM1 := Lib.hid (HM1.out.below bel)
  have HB := Lib.hid (bcall HB.out bel)
  have XS2 := Lib.hid (Bk.Bk.new 27 w5 (Kx.cells y))
  have HM2 := Lib.hid (hm2.row.below bel)
  have HP2 := Lib.hid hp2
  clear bel hm2 hp2
  generalize w5.alloc (.cells (Kx.cells y) 27) = V2 at *
  generalize w5.heap.size = g2 at *
  clear P2 S3 T0
  have hse : sameL l1 l2 = true := by rw [HP1.out.same HP2.out]; exact sameL_refl _
  have hln : l1.length ≤ 1 ∧ l2.length ≤ 1 := by
    rw [HP1.out.1, HP2.out.1]
    rcases HTL.out with h | ⟨m, h, _⟩ <;> rw [h] <;> exact ⟨by simp, by simp⟩
  have PS := Lib.hid (fun V h h' => rsameAll_any qa1 qa2 qk1 qk2 l1 l2 V h h' (HP1.out.short HSH.out) (HP2.out.short HSH.out) (by omega) (by omega))
  rw [hse] at PS
  have e1 := int_same er
  clear hse hln
  rcases HTL.out with hml | ⟨m, hml, _⟩
  · obtain rfl : l1 = [] := by have := HP1.out; rw [hml] at this; exact this.at_nil
    clear hml HTL HID HSH HP1 HP2
    dsimp only [List.length_nil] at *
    go_wp2_with fail
    refine (awake_any _ HT.out).mono ?_
    rintro r w6 ⟨rfl, hb⟩
    have XS1 := Lib.hid (XS1.out.below hb)
    have XS2 := Lib.hid (XS2.out.below hb)
    have HM1 := Lib.hid (HM1.out.below hb)
    have HM2 := Lib.hid (HM2.out.below hb)
    have HB := Lib.hid (bcall HB.out hb)
    clear hb
    go_wp2_with fail
    refine (PS.out _ HM1.out HM2.out).mono ?_
    rintro r w7 ⟨rfl, hb⟩
    have XS1 := Lib.hid (XS1.out.below hb)
    have XS2 := Lib.hid (XS2.out.below hb)
    have HB := Lib.hid (bcall HB.out hb)
    clear hb PS HM1 HM2
    go_wp2_with (first | (refine st_yes (v := .agg #[.string x.p0, .string x.p1, .string x.p2, .string x.p3]) (by rfl) rfl (run_loadAt (x := .tmp 93) (l := [.string x.p0, .string x.p1, .string x.p2, .string x.p3]) rfl rfl XS1.out (four_in x) (agg4 _) (size4 _)) ?_) | (refine st_yes (v := .agg #[.string x.p0, .string x.p1, .string x.p2, .string x.p3]) (by rfl) rfl (run_loadAt (x := .tmp 95) (l := [.string x.p0, .string x.p1, .string x.p2, .string x.p3]) rfl rfl XS2.out (by have := four_in y; rw [← HF.out.p0, ← HF.out.p1, ← HF.out.p2, ← HF.out.p3] at this; exact this) (agg4 _) (size4 _)) ?_) | (refine st_yes (v := .bool true) (by rfl) rfl (ex_eq4 (x := .tmp 94) (y := .tmp 96) rfl rfl rfl) ?_))
    go_ret
    exact ⟨rfl, HB.out⟩
  obtain ⟨n, rfl, hn⟩ : ∃ n, l1 = [n] ∧ Pl n m := by have := HP1.out; rw [hml] at this; exact this.at_one
  obtain ⟨hi1, hi2, hi3⟩ := HID.out m (by rw [hml]; simp)
  obtain ⟨q, rfl, _, hq, _, _⟩ := HM1.out 0 (by simp)
  have hq : ∀ j v, (n.cells.toList)[j]? = some v → V2.cell? (q.add j) = some v := fun j v hv => by
    have := hq j v hv
    rw [Nat.zero_mul, K9.add_zero] at this
    exact this
  have hqc : ∀ j v, 0 < j → (n.cells.toList)[j]? = some v → V2.cell? ⟨q.block, q.off + j, none⟩ = some v := fun j v hj hv => by
    have := hq j v hv
    unfold Addr.add at this
    rw [if_neg (by omega)] at this
    exact this
  have o9 := hqc 9 (.string n.next) (by decide) rfl
  have o10 := hqc 10 (.int .i64 n.metric) (by decide) rfl
  have o11 := hqc 11 (.string n.id) (by decide) rfl
  rw [show n.next = ByteArray.empty by rw [show n = _ from hn]; exact hi2] at o9
  rw [show n.metric = 65535 by rw [show n = _ from hn]; exact hi3] at o10
  rw [show n.id = ByteArray.empty by rw [show n = _ from hn]; exact hi1] at o11
  clear hml HTL HID HSH HP1 HP2 hq hqc hi1 hi2 hi3 hn
  dsimp only [List.length_cons, List.length_nil] at *
  go_upto_region 9 with fail
  clear o9 o10 o11
  go_wp2_with fail
  refine (awake_any _ HT.out).mono ?_
  rintro r w6 ⟨rfl, hb⟩
  have XS1 := Lib.hid (XS1.out.below hb)
  have XS2 := Lib.hid (XS2.out.below hb)
  have HM1 := Lib.hid (HM1.out.below hb)
  have HM2 := Lib.hid (HM2.out.below hb)
  have HB := Lib.hid (bcall HB.out hb)
  clear hb
  go_wp2_with fail
  refine (PS.out _ HM1.out HM2.out).mono ?_
  rintro r w7 ⟨rfl, hb⟩
  have XS1 := Lib.hid (XS1.out.below hb)
  have XS2 := Lib.hid (XS2.out.below hb)
  have HB := Lib.hid (bcall HB.out hb)
  clear hb PS HM1 HM2
  go_wp2_with (first | (refine st_yes (v := .agg #[.string x.p0, .string x.p1, .string x.p2, .string x.p3]) (by rfl) rfl (run_loadAt (x := .tmp 93) (l := [.string x.p0, .string x.p1, .string x.p2, .string x.p3]) rfl rfl XS1.out (four_in x) (agg4 _) (size4 _)) ?_) | (refine st_yes (v := .agg #[.string x.p0, .string x.p1, .string x.p2, .string x.p3]) (by rfl) rfl (run_loadAt (x := .tmp 95) (l := [.string x.p0, .string x.p1, .string x.p2, .string x.p3]) rfl rfl XS2.out (by have := four_in y; rw [← HF.out.p0, ← HF.out.p1, ← HF.out.p2, ← HF.out.p3] at this; exact this) (agg4 _) (size4 _)) ?_) | (refine st_yes (v := .bool true) (by rfl) rfl (ex_eq4 (x := .tmp 94) (y := .tmp 96) rfl rfl rfl) ?_))
  go_ret
  exact ⟨rfl, HB.out⟩

theorem own : ownKnob Tryd.prog.godebug = none := by kernel_rfl

set_option maxRecDepth 100000 in
theorem lifted (os : Os) (started : os.Started) (H : Type) (enc : TypeId × Value → H) :
    ReturnsInHanded {} Tryd.checked os 5 .any (fun w args => (Rows.ctxFarSpec.pre enc Tryd.prog Tryd.f5 Rows.ctxFarRow.domain false w args ∧ laidMetH Tryd.prog Rows.ctxFarRow.laid w) ∧ sizedMet enc Tryd.prog Tryd.f5 (OpenSpec.ofChange Rows.ctxFarSpec) false w args)
      (Rows.ctxFarSpec.post enc Tryd.prog Tryd.f5 false true false false) := by
  refine returnsInHanded_of_change_and (C := Tryd.checked) (X := fun w _ => laidMetH Tryd.prog Rows.ctxFarRow.laid w) (fun _ _ _ hh h => h.of_heap hh) own started (by kernel_rfl) Tryd.func5
    (ChangeSpec.witness_shaped (enc := enc) (C := Tryd.checked) (os := os) (X := fun w _ => laidMetH Tryd.prog Rows.ctxFarRow.laid w) false (World.laidAll Tryd.prog os Rows.ctxFarRow.laid) #[.agg Kx.zero.cells, .string ByteArray.empty] 8 (World.laidAll_os _ _ _)
      (World.shaped_of_ZipB (by kernel_rfl) (by kernel_rfl)) (by kernel_rfl) (by kernel_rfl) (by kernel_rfl)
      (by rw [MakeChecks.laidMetH_plain _ _ _ (by kernel_rfl)]; exact laidMet_laidAll _ (by kernel_rfl) (by kernel_rfl))) ?_
  intro W base args ds gs before hval0 hW _ _ hL0 _
  have hMet := of_laid hL0
  have hval : ∀ (j : Nat) t v, Tryd.f5.params[j]? = some t → args[j]? = some v → Value.okWide Tryd.prog W .any base t v := hval0
  have hW' := hW
  have hlt := fun x hx => hW'.lt x hx
  obtain ⟨p, q, hA0, hV, rfl, hfz, hnd⟩ := hW
  have hA : DataW.TrodAll enc Tryd.prog W 0 (fun _ => true) true Tryd.f5.params.toList args.toList ds p := hA0
  rw [Tryd.params5] at hA hval
  obtain ⟨v0, vs0, d0, ds0, p0, q0, hargs, rfl, rfl, h0, r0⟩ := trodAll_cons hA
  obtain ⟨v1, vs1, d1, ds1, p1, q1, rfl, rfl, rfl, h1, r1⟩ := trodAll_cons r0
  obtain ⟨rfl, rfl, rfl⟩ := trodAll_nil r1
  obtain rfl : args = #[v0, v1] := by cases args; simp_all
  obtain ⟨rfl, rfl⟩ := trodVars_none hV
  obtain ⟨c, rfl, hf⟩ := by_ctx (hval 0 27 v0 rfl rfl) h0
  have k1 := h1
  obtain ⟨d, rfl, rfl, rfl, hz⟩ := open_string Tryd.underlying9 (hval 1 9 v1 rfl rfl) k1
  clear hA0 hval0
  simp only [List.append_nil] at hW' hlt
  refine (walk c d W hf hz hMet).mono fun e W' ⟨he, hg⟩ => ?_
  subst he
  exact ⟨_, rfl, _, _, _, [], _, [], hW', trodAll_mk1 (shut_bool Tryd.underlying4 _), (trodAll_cons_mk (again (by kernel_rfl) (of_decide_eq_true (by kernel_rfl)) h0 hg fun x hx => hlt x (by first | exact absurd hx (by simp) | simp [hx])) (trodAll_cons_mk (again (by kernel_rfl) (of_decide_eq_true (by kernel_rfl)) h1 hg fun x hx => hlt x (by first | exact absurd hx (by simp) | simp [hx])) trodAll_mk0)), rfl, hg.frame _, fun h => by cases h⟩

theorem over : Rows.CtxFarSaid :=
  OpenClaim.holds_of_wide 5 Tryd.f5 rfl rfl rfl rfl rfl rfl rfl ⟨rfl, rfl, rfl, rfl, rfl⟩ rfl rfl rfl rfl rfl (by kernel_rfl) Tryd.func5 (by kernel_rfl)
    (of_decide_eq_true (by kernel_rfl)) (by unfold Func.isWrapper; first | (rw [if_pos (by decide +kernel)]; kernel_rfl) | (rw [if_neg (by decide +kernel)]; exact ⟨rfl, rfl⟩))
    (fun os started H enc _ => lifted os started H enc)

theorem proved : Rows.CtxFarCardSaid :=
  Claim7.holds_tied_plain_at .later [] _ true _ _
    over (fun _ h => by cases h) (by kernel_rfl) (fun _ h => by cases h) ctxFar_row_tie rfl ⟨rfl, rfl⟩ (by kernel_rfl) rfl
    (fun f fn hf hfn => by
      obtain rfl : f = 5 := Option.some.inj ((show Tryd.prog.funcNamed "roadbook/roadbooklaw22.CtxFar" = some 5 by kernel_rfl).symm.trans hf) |>.symm
      obtain rfl : fn = Tryd.f5 := (Option.some.inj (Tryd.func5.symm.trans hfn)).symm
      exact ⟨by kernel_rfl, fun j t ht => by
        rw [Tryd.params5] at ht
        have hm : t ∈ [27, 9] := by simpa using Array.mem_of_getElem? ht
        have hall : ([27, 9].all fun u => !Tryd.prog.wantsStandIn u) = true := by kernel_rfl
        exact (show Tryd.prog.wantsStandIn t = false by simpa using List.all_eq_true.1 hall t hm)⟩)
    (by kernel_rfl)
#print axioms proved
end Go.Proofs.YteecialdkfaejaaDoor.ctxFar
