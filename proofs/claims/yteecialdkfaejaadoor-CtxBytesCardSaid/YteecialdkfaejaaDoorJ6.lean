/-
  The program's Get and Take: the request, the Update that a TLV says. Conditions: a type of theirs, at most 100000 bytes; the variable has what it is laid with.
-/
import Derived.Test.YteecialdkfaejaaDoorJ5
import Derived.Test.YteecialdkfaejaaDoorTl
import Derived.Test.YteecialdkfaejaaDoorP5
namespace Go.Proofs.YteecialdkfaejaaDoor.J6
open Go.ChangeShapes Go.WideShapes Go.ChangeAt Go.RowKit
open Go.Proofs.YteecialdkfaejaaDoor.Ms
open Go.Proofs.YteecialdkfaejaaDoor.Box
open Go.Proofs.YteecialdkfaejaaDoor.S1
open Go.Proofs.YteecialdkfaejaaDoor.J1
open Go.Proofs.YteecialdkfaejaaDoor.J2
open Go.Proofs.YteecialdkfaejaaDoor.J4
open Go.Proofs.YteecialdkfaejaaDoor.J5
open Go.Proofs.YteecialdkfaejaaDoor.Rg
open Go.Proofs.YteecialdkfaejaaDoor.An
open Go.Proofs.YteecialdkfaejaaDoor.Tc
open Go.Proofs.YteecialdkfaejaaDoor.F1 (bt bt_nn bt_lt)
open Go.Proofs.YteecialdkfaejaaDoor.Tl (cellsT)
open Go.Proofs.YteecialdkfaejaaDoor.Cur (new_any)
open Go.Proofs.YteecialdkfaejaaDoor.Bk (Bk loadVarK wpList_builtK alloc_size)
open Go.Proofs.YteecialdkfaejaaDoor.Hs
set_option linter.unusedVariables false
set_option maxRecDepth 100000
set_option maxRecDepth 100000
theorem lst_cell {B : Nat} {w : World} {v u : Value} {l : List El} {p : Addr} (h : Sx.Lst B w v l) (hg : p.block < B) : Sx.Lst B (w.setCell p u) v l := by
  refine ⟨h.1, ?_⟩
  rcases h.2 with h | ⟨k, cap, cur, a, b, c, d⟩
  · exact .inl h
  · exact .inr ⟨k, cap, cur, a, b, (heap_setCell_other w p k u (by omega)).trans c, d⟩
/-- What Take answers: an Update (its Subs are the call's own), whether it is one, an error. -/
def AnsU (p : Up × Bool × Int) (w : World) (e : Ending) (w' : World) : Prop :=
  ∃ sa sc, e = .returned (.tuple #[.agg (Up.cells { p.1 with sa := sa, sc := sc }), .bool p.2.1, .int .i64 p.2.2]) ∧
    Sx.Lst w.heap.size w' (.slice sa p.1.sl.length sc) p.1.sl ∧ Below w.heap.size w w'
theorem AnsU.no {p : Up × Bool × Int} {w w' : World} {d : Int} (h : p = (Up.zero, false, d)) (hb : Below w.heap.size w w') : AnsU p w (.returned (.tuple #[.agg Up.zero.cells, .bool false, .int .i64 d])) w' := by
  subst h
  exact ⟨none, 0, rfl, Sx.Lst.nil _ _, hb⟩
theorem AnsU.yes {p : Up × Bool × Int} {w w' : World} {r : Up} {a : Option Addr} {l : List El} {c B : Nat} (h : p = ({ r with sl := l }, true, 0)) (hl : Sx.Lst B w' (.slice a l.length c) l) (hB : w.heap.size ≤ B) (hb : Below w.heap.size w w') :
    AnsU p w (.returned (.tuple #[.agg (Up.cells { r with sa := a, sl := l, sc := c }), .bool true, .int .i64 0])) w' := by
  subst h
  exact ⟨a, c, rfl, lst_mono hl hB, hb⟩
set_option maxHeartbeats 12800000 in
theorem take_own (a : Int) (s : ByteArray) (w : World) (hs : s.size ≤ 100000) (ht : Tab w) : Calls Tryd.prog 52 #[.agg (cellsT (a, (s, 8)))] w (AnsU (outK s) w) := by
  have hm : s.size ≤ maxLen := by unfold maxLen; omega
  have PF := Lib.hid (fun b V r => show Calls Tryd.prog 74 #[.pointer (some ⟨b, 0, none⟩)] V (Took (.agg (R8 s).cells) s (pU s) b V) from update_any s b hm V r)
  have HI := Lib.hid (isU s)
  have PE := Lib.hid (fun b V r q hb0 (hq : (s.size < 10 → (pU s).2 = true) ∧ (¬ s.size < 10 → pU s = (10, false) ∧ 0 ≤ bt s 0 ∧ 0 ≤ bt s 3 ∧ bt s 3 ≤ 255)) => ending_is s 10 b (pU s) (bt s 0) (bt s 2) (bt s 3) hs hq V r q hb0)
  have PZ := Lib.hid (fun b V r q hb0 (h : s.size < 10) => ending_is s 10 b (pU s) (R8 s).ae (R8 s).plen (R8 s).om hs ⟨fun _ => HI.out.1 h, fun k => absurd h k⟩ V r q hb0)
  have PN := Lib.hid (fun V => new_any s V hm)
  have h0 := ht.pos
  go_enter Tryd.func52, Tryd.ntmps52
  go_upto_region 1 with fail
  change Code.wp _ _ _ _ ((w.alloc (.cells (cellsT (a, (s, 8))) 29)).alloc (.cells Up.zero.cells 66))
  have hz := alloc_size w (.cells (cellsT (a, (s, 8))) 29)
  have X0 := Bk.Bk.new 66 (w.alloc (.cells (cellsT (a, (s, 8))) 29)) Up.zero.cells
  rw [hz] at X0
  have X0 := Lib.hid X0
  have T0 := Lib.hid ((Bk.Bk.new 29 w (cellsT (a, (s, 8)))).old (.cells Up.zero.cells 66))
  have HB := Lib.hid (balloc (balloc (Below.refl _ w) (.cells (cellsT (a, (s, 8))) 29)) (.cells Up.zero.cells 66))
  have HT := Lib.hid (ht.below HB.out)
  clear hz ht
  generalize (w.alloc (.cells (cellsT (a, (s, 8))) 29)).alloc (.cells Up.zero.cells 66) = W at *
  have c0 := T0.out.cell 0 (.int .i64 8) rfl
  have c2 := T0.out.cell 2 (.string s) rfl
  go_wp2_with fail
  refine (PN.out _).mono ?_
  rintro e w1 ⟨rfl, hb⟩
  have X0 := Lib.hid (X0.out.below hb)
  have HT := Lib.hid (HT.out.below hb)
  have HB := Lib.hid (bcall HB.out hb)
  clear hb c0 c2 PN T0
  go_upto_region 4 with fail
  change Code.wp _ _ _ _ (w1.alloc (.cells (cu s (0, false)) 108))
  have bel := balloc (Below.refl w1.heap.size w1) (.cells (cu s (0, false)) 108)
  have hlt := X0.out.lt
  have X0 := Lib.hid (X0.out.below bel)
  have HT := Lib.hid (HT.out.below bel)
  have HB := Lib.hid (bcall HB.out bel)
  have R0 := Lib.hid (Bk.Bk.new 108 w1 (cu s (0, false)))
  clear bel
  generalize w1.alloc (.cells (cu s (0, false)) 108) = W1 at *
  generalize w1.heap.size = b at *
  go_wp2_with fail
  refine (PF.out b _ R0.out).mono ?_
  rintro e w2 ⟨rfl, hr, hbel⟩
  have X0 := Lib.hid (hbel.bk (by omega) X0.out)
  have R0 := Lib.hid hr
  have hW1 := HB.out.size
  have hW2 := X0.out.lt
  have HB := Lib.hid (HB.out.trans (hbel.to (C := w.heap.size) (by omega) (by omega)))
  have HT := Lib.hid (hbel.tab (by omega) (by omega) HT.out)
  clear hr hbel PF
  go_upto_region 5 with (refine wpList_storeU (b := w2.heap.size) (m := Up.zero) (m' := R8 s) rfl _ _ rfl rfl rfl (Bk.Bk.new 66 w2 Up.zero.cells) ?_)
  change Code.wp _ _ _ _ ((w2.alloc (.cells Up.zero.cells 66)).setRow w2.heap.size (R8 s).cells)
  rw [World.setRow_alloc_new]
  have bel := balloc (Below.refl w2.heap.size w2) (.cells (R8 s).cells 66)
  have hlt2 := R0.out.lt
  have X0 := Lib.hid (X0.out.below bel)
  have R0 := Lib.hid (R0.out.below bel)
  have HT := Lib.hid (HT.out.below bel)
  have HB := Lib.hid (bcall HB.out bel)
  have XM := Lib.hid (Bk.Bk.new 66 w2 (R8 s).cells)
  clear bel
  generalize w2.alloc (.cells (R8 s).cells 66) = V at *
  generalize w2.heap.size = g at *
  by_cases hsz : s.size < 10
  · have HY := Lib.hid (outK_no (d := s) (end_short hsz))
    have PZ := Lib.hid (fun b V r q hb0 => PZ.out b V r q hb0 hsz)
    rw [end_short hsz] at PZ
    clear PE HI hsz
    generalize R8 s = x at *
    have c0 := XM.out.cell 0 (.int .i64 x.ae) rfl
    have c2 := XM.out.cell 2 (.int .i64 x.plen) rfl
    have c3 := XM.out.cell 3 (.int .i64 x.om) rfl
    have XM0 := XM
    go_wp2_with fail
    refine (PZ.out b _ R0.out HT.out (by omega)).mono ?_
    rintro e w3 ⟨sa, sc, rfl, hl, hbel⟩
    have X0 := Lib.hid (hbel.bk (by omega) X0.out)
    have XM := Lib.hid (hbel.bk (by omega) XM.out)
    have hV1 := HB.out.size
    have HB := Lib.hid (HB.out.trans (hbel.to (C := w.heap.size) (by omega) (by omega)))
    have HL := Lib.hid hl
    have hV := XM0.out.lt
    have hx3 := X0.out.lt
    have hm3 := XM.out.lt
    clear hl hbel R0 HT XM0 c0 c2 c3
    go_upto_region 6 with (refine wpList_storeN (b := w3.heap.size) rfl _ _ rfl rfl En.zero sa sc (m := En.zero) (sa0 := none) (sc0 := 0) rfl (Bk.Bk.new 111 w3 (cellsN En.zero none 0)) ?_)
    change Code.wp _ _ _ _ ((w3.alloc (.cells (cellsN En.zero none 0) 111)).setRow w3.heap.size (cellsN En.zero sa sc))
    rw [World.setRow_alloc_new]
    have bel := balloc (Below.refl w3.heap.size w3) (.cells (cellsN En.zero sa sc) 111)
    have X0 := Lib.hid (X0.out.below bel)
    have XM := Lib.hid (XM.out.below bel)
    have HL := Lib.hid (HL.out.below bel)
    have HB := Lib.hid (bcall HB.out bel)
    have XE := Lib.hid (Bk.Bk.new 111 w3 (cellsN En.zero sa sc))
    clear bel
    generalize w3.alloc (.cells (cellsN En.zero sa sc) 111) = V3 at *
    generalize w3.heap.size = ge at *
    go_wp2_with (first | (refine wpList_builtK rfl 66 _ rfl (Up.cells Up.zero) (by kernel_rfl) ?_) | (refine wpList_storeU (b := w.heap.size + 1) (m := Up.zero) (m' := Up.zero) rfl _ _ rfl rfl rfl X0.out ?_))
    exact bodyPost_ret (v := .tuple #[.agg Up.zero.cells, .bool false, .int .i64 2]) (results_three rfl _ _ (w.heap.size + 1) _ rfl (loadVarK shU (X0.out.put (Up.cells Up.zero)) rfl) (.bool false) rfl (.int .i64 2) rfl) rfl (AnsU.no HY.out (Box.below_setRow HB.out (by omega) _))
  obtain ⟨hq, hR⟩ := HI.out.2 hsz
  have PE := Lib.hid (fun b V r q hb0 => PE.out b V r q hb0 ⟨fun k => absurd k hsz, fun _ => ⟨hq, bt_nn s 0, bt_nn s 3, by have := bt_lt s 3; omega⟩⟩)
  rw [hR] at XM
  have E0 := Lib.hid (show (hdK s).ae = bt s 0 from rfl)
  have E2 := Lib.hid (show (hdK s).plen = bt s 2 from rfl)
  have E3 := Lib.hid (show (hdK s).om = bt s 3 from rfl)
  clear PZ HI hq hR
  have c0 := XM.out.cell 0 (.int .i64 (hdK s).ae) rfl
  have c2 := XM.out.cell 2 (.int .i64 (hdK s).plen) rfl
  have c3 := XM.out.cell 3 (.int .i64 (hdK s).om) rfl
  rw [E0.out] at c0
  rw [E2.out] at c2
  rw [E3.out] at c3
  have XM0 := XM
  rcases end_cases s 10 (bt s 0) (bt s 2) (bt s 3) with ⟨er, hE⟩ | ⟨y, hE⟩
  · have HY := Lib.hid (outK_no (d := s) hE)
    rw [hE] at PE
    clear hE
    generalize hdK s = x at *
    generalize bt s 0 = y0 at *
    generalize bt s 2 = y2 at *
    generalize bt s 3 = y3 at *
    go_wp2_with fail
    refine (PE.out b _ R0.out HT.out (by omega)).mono ?_
    rintro e w3 ⟨sa, sc, rfl, hl, hbel⟩
    have X0 := Lib.hid (hbel.bk (by omega) X0.out)
    have XM := Lib.hid (hbel.bk (by omega) XM.out)
    have hV1 := HB.out.size
    have HB := Lib.hid (HB.out.trans (hbel.to (C := w.heap.size) (by omega) (by omega)))
    have HL := Lib.hid hl
    have hV := XM0.out.lt
    have hx3 := X0.out.lt
    have hm3 := XM.out.lt
    clear hl hbel R0 HT XM0 c0 c2 c3
    go_upto_region 6 with (refine wpList_storeN (b := w3.heap.size) rfl _ _ rfl rfl En.zero sa sc (m := En.zero) (sa0 := none) (sc0 := 0) rfl (Bk.Bk.new 111 w3 (cellsN En.zero none 0)) ?_)
    change Code.wp _ _ _ _ ((w3.alloc (.cells (cellsN En.zero none 0) 111)).setRow w3.heap.size (cellsN En.zero sa sc))
    rw [World.setRow_alloc_new]
    have bel := balloc (Below.refl w3.heap.size w3) (.cells (cellsN En.zero sa sc) 111)
    have X0 := Lib.hid (X0.out.below bel)
    have XM := Lib.hid (XM.out.below bel)
    have HL := Lib.hid (HL.out.below bel)
    have HB := Lib.hid (bcall HB.out bel)
    have XE := Lib.hid (Bk.Bk.new 111 w3 (cellsN En.zero sa sc))
    clear bel
    generalize w3.alloc (.cells (cellsN En.zero sa sc) 111) = V3 at *
    generalize w3.heap.size = ge at *
    go_wp2_with (first | (refine wpList_builtK rfl 66 _ rfl (Up.cells Up.zero) (by kernel_rfl) ?_) | (refine wpList_storeU (b := w.heap.size + 1) (m := Up.zero) (m' := Up.zero) rfl _ _ rfl rfl rfl X0.out ?_))
    exact bodyPost_ret (v := .tuple #[.agg Up.zero.cells, .bool false, .int .i64 er]) (results_three rfl _ _ (w.heap.size + 1) _ rfl (loadVarK shU (X0.out.put (Up.cells Up.zero)) rfl) (.bool false) rfl (.int .i64 er) rfl) rfl (AnsU.no HY.out (Box.below_setRow HB.out (by omega) _))
  have HY := Lib.hid (outK_yes hE.eq)
  rw [hE.eq] at PE
  have HH := Lib.hid (show (hdK s).hav = 0 from rfl)
  have HS := Lib.hid (show (hdK s).bytes = ByteArray.empty ∧ (hdK s).sa = none ∧ (hdK s).sl = [] ∧ (hdK s).sc = 0 from ⟨rfl, rfl, rfl, rfl⟩)
  clear hE
  obtain ⟨yb, yl, kn⟩ := y
  generalize hdK s = x at *
  generalize bt s 0 = y0 at *
  generalize bt s 2 = y2 at *
  generalize bt s 3 = y3 at *
  simp only [] at HY PE
  go_wp2_with fail
  refine (PE.out b _ R0.out HT.out (by omega)).mono ?_
  rintro e w3 ⟨sa, sc, rfl, hl, hbel⟩
  have X0 := Lib.hid (hbel.bk (by omega) X0.out)
  have XM := Lib.hid (hbel.bk (by omega) XM.out)
  have hV1 := HB.out.size
  have HB := Lib.hid (HB.out.trans (hbel.to (C := w.heap.size) (by omega) (by omega)))
  have HL := Lib.hid hl
  have hV := XM0.out.lt
  have hx3 := X0.out.lt
  have hm3 := XM.out.lt
  clear hl hbel R0 HT XM0 c0 c2 c3
  go_upto_region 6 with (refine wpList_storeN (b := w3.heap.size) rfl _ _ rfl rfl ⟨yb, yl, kn⟩ sa sc (m := En.zero) (sa0 := none) (sc0 := 0) rfl (Bk.Bk.new 111 w3 (cellsN En.zero none 0)) ?_)
  change Code.wp _ _ _ _ ((w3.alloc (.cells (cellsN En.zero none 0) 111)).setRow w3.heap.size (cellsN ⟨yb, yl, kn⟩ sa sc))
  rw [World.setRow_alloc_new]
  have bel := balloc (Below.refl w3.heap.size w3) (.cells (cellsN ⟨yb, yl, kn⟩ sa sc) 111)
  have X0 := Lib.hid (X0.out.below bel)
  have XM := Lib.hid (XM.out.below bel)
  have HL := Lib.hid (HL.out.below bel)
  have HB := Lib.hid (bcall HB.out bel)
  have XE := Lib.hid (Bk.Bk.new 111 w3 (cellsN ⟨yb, yl, kn⟩ sa sc))
  clear bel
  generalize w3.alloc (.cells (cellsN ⟨yb, yl, kn⟩ sa sc) 111) = V3 at *
  generalize w3.heap.size = ge at *
  go_upto_region 8 with fail
  refine wp_region_held_drew (S := fun W => W.cell? ⟨ge, 0, none⟩ = some (.string yb) ∧ W.cell? ⟨ge, 1, none⟩ = some (.slice sa yl.length sc)) (by kernel_rfl) ⟨XE.out.cell 0 _ rfl, XE.out.cell 1 _ rfl⟩ (fun hS => ?_)
  have X0 := Lib.hid (show Bk 66 V3.drew (w.heap.size + 1) Up.zero.cells from X0.out)
  have XM := Lib.hid (show Bk 66 V3.drew g x.cells from XM.out)
  have XE := Lib.hid (show Bk 111 V3.drew ge (cellsN ⟨yb, yl, kn⟩ sa sc) from XE.out)
  have HL := Lib.hid (show Sx.Lst _ V3.drew (.slice sa yl.length sc) yl from HL.out)
  have HB := Lib.hid HB.out.drew
  generalize V3.drew = X8 at *
  refine H.tk (i := 0) (v := ?v0) ?h0 hS ?_
  case h0 => (intro w hw; go_simp; first | done | (with_reducible rfl))
  try simp only [Act.put, List.setIfInBounds_toArray, List.set_cons_zero, List.set_cons_succ]
  refine H.tk (i := 1) (v := .string yb) ?h1 hS ?_
  case h1 => exact (fun w hw => by have c := hw.1; go_simp)
  try simp only [Act.put, List.setIfInBounds_toArray, List.set_cons_zero, List.set_cons_succ]
  refine H.tk (i := 2) (v := ?v2) ?h2 hS ?_
  case h2 => (intro w hw; go_simp; first | done | (with_reducible rfl))
  try simp only [Act.put, List.setIfInBounds_toArray, List.set_cons_zero, List.set_cons_succ]
  refine H.tk (i := 3) (v := .slice sa yl.length sc) ?h3 hS ?_
  case h3 => exact (fun w hw => by have c := hw.2; go_simp)
  try simp only [Act.put, List.setIfInBounds_toArray, List.set_cons_zero, List.set_cons_succ]
  refine H.tk (i := 4) (v := ?v4) ?h4 hS ?_
  case h4 => (intro w hw; go_simp; first | done | (with_reducible rfl))
  try simp only [Act.put, List.setIfInBounds_toArray, List.set_cons_zero, List.set_cons_succ]
  refine wpAnyH_ready (rs := [5]) (by kernel_rfl) (by simp) ?_
  refine AllReadyH.cons rfl (fun K hK => ?_) AllReadyH.nil
  have cx := XM.out.cell 8 _ rfl
  have fx := XM.out.frozen 8
  go_simp
  have XM := Lib.hid (XM.out.set (i := 8) (v := .string yb) (cs' := Up.cells { x with bytes := yb }) rfl)
  have X0 := Lib.hid (X0.out.off (p := ⟨g, 8, none⟩) (by show w.heap.size + 1 ≠ g; omega) (.string yb))
  have XE := Lib.hid (XE.out.off (p := ⟨g, 8, none⟩) (by show ge ≠ g; omega) (.string yb))
  have HB := Lib.hid (HB.out.setCell (p := ⟨g, 8, none⟩) (by show w.heap.size ≤ g; omega) (.string yb))
  have HL := Lib.hid (lst_cell (u := .string yb) (p := ⟨g, 8, none⟩) HL.out (by show g < _; omega))
  refine hK.out _ _ ⟨XE.out.cell 0 _ rfl, XE.out.cell 1 _ rfl⟩ (fun hS' => ?_)
  clear hK K hS cx fx
  have hS := hS'
  clear hS'
  generalize World.setCell _ ⟨g, 8, none⟩ _ = Y5 at *
  try simp only [Act.put, List.setIfInBounds_toArray, List.set_cons_zero, List.set_cons_succ]
  refine H.tk (i := 6) (v := ?v6) ?h6 hS ?_
  case h6 => (intro w hw; go_simp; first | done | (with_reducible rfl))
  try simp only [Act.put, List.setIfInBounds_toArray, List.set_cons_zero, List.set_cons_succ]
  refine wpAnyH_ready (rs := [7]) (by kernel_rfl) (by simp) ?_
  refine AllReadyH.cons rfl (fun K hK => ?_) AllReadyH.nil
  have cx := XM.out.cell 9 _ rfl
  have fx := XM.out.frozen 9
  go_simp
  have XM := Lib.hid (XM.out.set (i := 9) (v := .slice sa yl.length sc) (cs' := Up.cells { x with bytes := yb, sa := sa, sl := yl, sc := sc }) rfl)
  have X0 := Lib.hid (X0.out.off (p := ⟨g, 9, none⟩) (by show w.heap.size + 1 ≠ g; omega) (.slice sa yl.length sc))
  have XE := Lib.hid (XE.out.off (p := ⟨g, 9, none⟩) (by show ge ≠ g; omega) (.slice sa yl.length sc))
  have HB := Lib.hid (HB.out.setCell (p := ⟨g, 9, none⟩) (by show w.heap.size ≤ g; omega) (.slice sa yl.length sc))
  have HL := Lib.hid (lst_cell (u := .slice sa yl.length sc) (p := ⟨g, 9, none⟩) HL.out (by show g < _; omega))
  refine hK.out _ _ ⟨XE.out.cell 0 _ rfl, XE.out.cell 1 _ rfl⟩ (fun hS' => ?_)
  clear hK K hS cx fx
  have hS := hS'
  clear hS'
  generalize World.setCell _ ⟨g, 9, none⟩ _ = Y7 at *
  try simp only [Act.put, List.setIfInBounds_toArray, List.set_cons_zero, List.set_cons_succ]
  refine wpAnyH_done (by kernel_rfl) ?_ _
  have e2 := XE.out.cell 2 (.bool kn) rfl
  cases kn with
  | false =>
    have HY := Lib.hid (show outK s = ({ ({ x with bytes := yb } : Up) with sl := yl }, true, 0) by rw [HY.out]; obtain ⟨_, _, _, _, _, _, _, xh, _, _, _, _⟩ := x; obtain rfl : xh = 0 := HH.out; rfl)
    go_wp2_with (first | (refine wpList_loadU (b := g) (m := { x with bytes := yb, sa := sa, sl := yl, sc := sc }) rfl _ rfl rfl XM.out ?_) | (refine wpList_storeU (b := w.heap.size + 1) (m := Up.zero) (m' := { x with bytes := yb, sa := sa, sl := yl, sc := sc }) rfl _ _ rfl rfl rfl X0.out ?_))
    exact bodyPost_ret (v := .tuple #[.agg (Up.cells { x with bytes := yb, sa := sa, sl := yl, sc := sc }), .bool true, .int .i64 0]) (results_three rfl _ _ (w.heap.size + 1) _ rfl (loadVarK shU (X0.out.put (Up.cells { x with bytes := yb, sa := sa, sl := yl, sc := sc })) rfl) (.bool true) rfl (.int .i64 0) rfl) rfl (AnsU.yes (r := { x with bytes := yb }) HY.out (lst_under HL.out (by omega) _) (by omega) (Box.below_setRow HB.out (by omega) _))
  | true =>
    have HY := Lib.hid (show outK s = ({ ({ x with hav := 1, bytes := yb } : Up) with sl := yl }, true, 0) by rw [HY.out]; rfl)
    have d := XM.out.cell 7 _ rfl
    have fd := XM.out.frozen 7
    go_upto_region 11 with fail
    have XM := Lib.hid (XM.out.set (i := 7) (v := .int .i64 1) (cs' := Up.cells { x with hav := 1, bytes := yb, sa := sa, sl := yl, sc := sc }) rfl)
    have X0 := Lib.hid (X0.out.off (p := ⟨g, 7, none⟩) (by show w.heap.size + 1 ≠ g; omega) (.int .i64 1))
    have HB := Lib.hid (HB.out.setCell (p := ⟨g, 7, none⟩) (by show w.heap.size ≤ g; omega) (.int .i64 1))
    have HL := Lib.hid (lst_cell (u := .int .i64 1) (p := ⟨g, 7, none⟩) HL.out (by show g < _; omega))
    clear d fd e2 XE
    generalize World.setCell _ ⟨g, 7, none⟩ (.int .i64 1) = Y9 at *
    go_wp2_with (first | (refine wpList_loadU (b := g) (m := { x with hav := 1, bytes := yb, sa := sa, sl := yl, sc := sc }) rfl _ rfl rfl XM.out ?_) | (refine wpList_storeU (b := w.heap.size + 1) (m := Up.zero) (m' := { x with hav := 1, bytes := yb, sa := sa, sl := yl, sc := sc }) rfl _ _ rfl rfl rfl X0.out ?_))
    exact bodyPost_ret (v := .tuple #[.agg (Up.cells { x with hav := 1, bytes := yb, sa := sa, sl := yl, sc := sc }), .bool true, .int .i64 0]) (results_three rfl _ _ (w.heap.size + 1) _ rfl (loadVarK shU (X0.out.put (Up.cells { x with hav := 1, bytes := yb, sa := sa, sl := yl, sc := sc })) rfl) (.bool true) rfl (.int .i64 0) rfl) rfl (AnsU.yes (r := { x with hav := 1, bytes := yb }) HY.out (lst_under HL.out (by omega) _) (by omega) (Box.below_setRow HB.out (by omega) _))
end Go.Proofs.YteecialdkfaejaaDoor.J6
