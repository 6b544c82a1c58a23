/-
  The program's calls on the reader: a number, a text, the rest, the fields of each type. Conditions: at most 2^20 bytes.
-/
import Derived.Test.YteecialdkfaejaaDoorJ2
import Derived.Test.YteecialdkfaejaaDoorRg
namespace Go.Proofs.YteecialdkfaejaaDoor.J4
open Go.ChangeShapes Go.WideShapes Go.ChangeAt Go.RowKit
open Go.Proofs.YteecialdkfaejaaDoor.Ms
open Go.Proofs.YteecialdkfaejaaDoor.Box
open Go.Proofs.YteecialdkfaejaaDoor.Nu
open Go.Proofs.YteecialdkfaejaaDoor.J1
open Go.Proofs.YteecialdkfaejaaDoor.J2
open Go.Proofs.YteecialdkfaejaaDoor.An
open Go.Proofs.YteecialdkfaejaaDoor.Tc
open Go.Proofs.YteecialdkfaejaaDoor.Rg
open Go.Proofs.YteecialdkfaejaaDoor.F1 (bt bt_nn bt_lt num_one num_two)
open Go.Proofs.YteecialdkfaejaaDoor.Cur (numL left_ok)
open Go.Proofs.YteecialdkfaejaaDoor.Bk (Bk Sh shC cur cur_one loadVarK wpList_builtK wpList_loadK wpList_storeK run_loadK alloc_size results_one results_pair)
open Go.Proofs.YteecialdkfaejaaDoor.Hs
set_option linter.unusedVariables false
set_option maxRecDepth 100000
set_option maxRecDepth 100000
theorem _root_.Go.Proofs.YteecialdkfaejaaDoor.Rg.Bel.tab {B b : Nat} {w w' : World} (h : Bel B b w w') (hB : 1 < B) (hb : 1 < b) (ht : Tab w) : Tab w' := ht.under (h.to (C := 2) (by omega) (by omega)) (by omega)
/-- What a call on the reader in block b leaves: the answer, the place. -/
def Took (v : Value) (s : ByteArray) (p : Nat × Bool) (b : Nat) (w : World) (e : Ending) (w' : World) : Prop := e = .returned v ∧ Bk 108 w' b (cu s p) ∧ Bel w.heap.size b w w'
set_option maxHeartbeats 800000 in
theorem rdnum (s : ByteArray) (p : Nat × Bool) (k b : Nat) (ki : Int) (hki : ki = k) (hs : s.size ≤ maxLen) (hp : p.1 ≤ s.size) (h4 : 1 ≤ k) (h5 : k ≤ 7) (w : World) (hb : Bk 108 w b (cu s p)) :
    Calls Tryd.prog 85 #[.pointer (some ⟨b, 0, none⟩), .int .i64 ki] w (Took (.int .i64 (rdV s p k)) s (nx s k p) b w) := by
  have P := Lib.hid (cnum s p k ki hki hs hp h4 h5 w)
  have HQ := Lib.hid (show cu s (nx s k p) = #[.string s, .int .i64 ((nx s k p).1 : Int), .int .i64 (s.size : Int), .bool (nx s k p).2] from rfl)
  have HB := Lib.hid hb
  have hlt := hb.lt
  clear hb hki hp
  unfold Took
  generalize rdV s p k = v at *
  generalize nx s k p = q at *
  rw [HQ.out]
  clear HQ
  go_enter Tryd.func85, Tryd.ntmps85
  go_wp2_with (first | (refine wpList_loadK shC rfl _ rfl rfl HB.out rfl ?_))
  refine P.out.mono ?_
  rintro e w1 ⟨rfl, hb1⟩
  have HB1 := Lib.hid (HB.out.below hb1)
  have hlt1 := HB1.out.lt
  go_wp2_with (first | (refine wpList_storeK (b := b) shC rfl _ _ rfl rfl rfl (HB1.out.old _) rfl rfl (cur_one s (q.1 : Int) s.size q.2) ?_))
  go_ret
  exact ⟨rfl, (HB1.out.old _).put _, (Bel.of (hb1.alloc hb1.size _)).trans (Bel.rowb _ _)⟩
set_option maxHeartbeats 800000 in
theorem rdtext (s : ByteArray) (p : Nat × Bool) (k b : Nat) (ki : Int) (hki : ki = k) (hs : s.size ≤ maxLen) (hp : p.1 ≤ s.size) (w : World) (hb : Bk 108 w b (cu s p)) :
    Calls Tryd.prog 87 #[.pointer (some ⟨b, 0, none⟩), .int .i64 ki] w (Took (.string (rdT s p k)) s (nx s k p) b w) := by
  have P := Lib.hid (ctext s p k ki hki hs hp w)
  have HQ := Lib.hid (show cu s (nx s k p) = #[.string s, .int .i64 ((nx s k p).1 : Int), .int .i64 (s.size : Int), .bool (nx s k p).2] from rfl)
  have HB := Lib.hid hb
  have hlt := hb.lt
  clear hb hki hp
  unfold Took
  generalize rdT s p k = v at *
  generalize nx s k p = q at *
  rw [HQ.out]
  clear HQ
  go_enter Tryd.func87, Tryd.ntmps87
  go_wp2_with (first | (refine wpList_loadK shC rfl _ rfl rfl HB.out rfl ?_))
  refine P.out.mono ?_
  rintro e w1 ⟨rfl, hb1⟩
  have HB1 := Lib.hid (HB.out.below hb1)
  have hlt1 := HB1.out.lt
  go_wp2_with (first | (refine wpList_storeK (b := b) shC rfl _ _ rfl rfl rfl (HB1.out.old _) rfl rfl (cur_one s (q.1 : Int) s.size q.2) ?_))
  go_ret
  exact ⟨rfl, (HB1.out.old _).put _, (Bel.of (hb1.alloc hb1.size _)).trans (Bel.rowb _ _)⟩
set_option maxHeartbeats 800000 in
theorem rest_any (s : ByteArray) (a b : Nat) (hs : s.size ≤ maxLen) (ha : a ≤ s.size) (w : World) (hb : Bk 108 w b (cu s (a, false))) :
    Calls Tryd.prog 88 #[.pointer (some ⟨b, 0, none⟩)] w (Took (.string (s.extract a s.size)) s (s.size, false) b w) := by
  have hm := hs
  unfold maxLen at hm
  have PL := Lib.hid (left_ok s a s.size w)
  rw [IntWalk.wrap64_in _ ⟨by omega, by omega⟩] at PL
  have PT := Lib.hid (fun V (h : Bk 108 V b (cu s (a, false))) => rdtext s (a, false) (s.size - a) b ((s.size : Int) - a) (by omega) hs ha V h)
  have e1 : nx s (s.size - a) (a, false) = (s.size, false) := by rw [nx_yes (by omega)]; simp; omega
  have e2 : rdT s (a, false) (s.size - a) = s.extract a s.size := by rw [t_yes (by omega)]; congr 1; omega
  rw [e1, e2] at PT
  have HB := Lib.hid hb
  clear hb hs hm ha e1 e2
  go_enter Tryd.func88, Tryd.ntmps88
  go_wp2_with (first | (refine wpList_loadK shC rfl _ rfl rfl HB.out rfl ?_))
  refine PL.out.mono ?_
  rintro e w1 ⟨rfl, hb1⟩
  have HB := Lib.hid (HB.out.below hb1)
  have HL := Lib.hid (show Bel w.heap.size b w w1 from Bel.of hb1)
  have hsz := hb1.size
  clear hb1 PL
  go_wp2_with fail
  refine (PT.out _ HB.out).mono ?_
  rintro e w2 ⟨rfl, h1, h2⟩
  have HX := Lib.hid h1
  have HL := Lib.hid (HL.out.trans (h2.mono hsz))
  clear h1 h2
  go_wp2
  go_ret
  exact ⟨rfl, HX.out, HL.out⟩
/-- What stands in the middle of fields: the answer's block, the cells in block mb (a struct of the type T), the reader in block b. -/
structure R (T : TypeId) (w0 W : World) (b mb : Nat) (s : ByteArray) (zs cs : Array Value) (p : Nat × Bool) : Prop where
  msg : Bk T W mb cs
  rd : Bk 108 W b (cu s p)
  res : Bk T W w0.heap.size zs
  o1 : w0.heap.size < mb
  o2 : b < w0.heap.size
  bel : Bel w0.heap.size b w0 W
  le : p.1 ≤ s.size
section
variable {T : TypeId} {w0 W W' : World} {b mb : Nat} {s : ByteArray} {zs cs cs' : Array Value} {p p' : Nat × Bool}
theorem R.step {v : Value} {k : Nat} {e : Ending} (g : R T w0 W b mb s zs cs p) (h : Took v s (nx s k p) b W e W') : R T w0 W' b mb s zs cs (nx s k p) :=
  ⟨h.2.2.bk (by have := g.o1; have := g.o2; omega) g.msg, h.2.1, h.2.2.bk (by have := g.o2; omega) g.res, g.o1, g.o2, g.bel.trans (h.2.2.mono g.bel.size), nx_le g.le⟩
theorem R.set (g : R T w0 W b mb s zs cs p) {i : Nat} {v : Value} (hm : cs.setIfInBounds i v = cs') : R T w0 (W.setCell ⟨mb, i, none⟩ v) b mb s zs cs' p :=
  ⟨g.msg.set hm, g.rd.off (by have := g.o1; have := g.o2; show b ≠ mb; omega) _, g.res.off (by have := g.o1; show w0.heap.size ≠ mb; omega) _, g.o1, g.o2, g.bel.cell (p := ⟨mb, i, none⟩) (by have := g.o1; show w0.heap.size ≤ mb; omega) _, g.le⟩
theorem R.start (w : World) (s : ByteArray) (zs m0 : Array Value) (hb : Bk 108 w b (cu s p)) (hp : p.1 ≤ s.size) :
    R T w (((w.alloc (.cells zs T)).alloc (.cells zs T)).setRow (w.heap.size + 1) m0) b (w.heap.size + 1) s zs m0 p := by
  have A := Bk.Bk.new T (w.alloc (.cells zs T)) zs
  rw [alloc_size] at A
  have hl := hb.lt
  exact ⟨A.put _, ((hb.old _).old _).row (by omega) _, ((Bk.Bk.new T w zs).old _).row (by omega) _, by omega, hl,
    (Bel.of (balloc (balloc (Below.refl _ w) _) _)).row (by omega) _, hp⟩
theorem R.plain (w : World) (s : ByteArray) (zs : Array Value) (hb : Bk 108 w b (cu s p)) (hp : p.1 ≤ s.size) :
    R T w ((w.alloc (.cells zs T)).alloc (.cells zs T)) b (w.heap.size + 1) s zs zs p := by
  have A := Bk.Bk.new T (w.alloc (.cells zs T)) zs
  rw [alloc_size] at A
  have hl := hb.lt
  exact ⟨A, (hb.old _).old _, (Bk.Bk.new T w zs).old _, by omega, hl, Bel.of (balloc (balloc (Below.refl _ w) _) _), hp⟩
theorem R.ends (g : R T w0 W b mb s zs cs p) (r : Array Value) : Bk T (W.setRow w0.heap.size r) w0.heap.size r ∧ Bk 108 (W.setRow w0.heap.size r) b (cu s p) ∧ Bel w0.heap.size b w0 (W.setRow w0.heap.size r) :=
  ⟨g.res.put _, g.rd.row (by have := g.o2; omega) _, g.bel.row (Nat.le_refl _) _⟩
end
theorem shM : Sh Tryd.prog 40 25 := ⟨_, Tryd.underlying40, by kernel_rfl⟩
theorem shU : Sh Tryd.prog 66 10 := ⟨_, Tryd.underlying66, by kernel_rfl⟩
theorem oneU (x : Up) : (x.cells.all fun x => x.oneCell') = true := by simp [Up.cells, Value.oneCell']
theorem wpList_loadU {ops : Array Oper} {rest : List Oper} {o : Oper} {a : Act} {w : World} {Q : Exit → Act → World → Prop} (hgd : o.guard = none) (x : Operand) (ho : o.op = .load 66 x) {b : Nat} (hx : a.eval x = .pointer (some ⟨b, 0, none⟩)) {m : Up} (hb : Bk 66 w b m.cells)
    (h : wpList Tryd.prog ops Q rest (a.put o.dst (.agg m.cells)) w) : wpList Tryd.prog ops Q (o :: rest) a w := wpList_loadK shU hgd x ho hx hb rfl h
theorem wpList_storeU {ops : Array Oper} {rest : List Oper} {o : Oper} {a : Act} {w : World} {Q : Exit → Act → World → Prop} (hgd : o.guard = none) (x y : Operand) (ho : o.op = .store 66 x y) {b : Nat} (hx : a.eval x = .pointer (some ⟨b, 0, none⟩)) {m m' : Up} (hy : a.eval y = .agg m'.cells) (hb : Bk 66 w b m.cells)
    (h : wpList Tryd.prog ops Q rest (a.put o.dst undef) (w.setRow b m'.cells)) : wpList Tryd.prog ops Q (o :: rest) a w := wpList_storeK shU hgd x y ho hx hy hb rfl rfl (oneU m') h
/-- What routeReq takes. -/
def R9 (s : ByteArray) : M := { M.zero with kind := 12, ae := (rdV s (0, false) 1), plen := (rdV s (nx s 1 (0, false)) 1) }
/-- What seqnoReq takes. -/
def R10 (s : ByteArray) : M := { M.zero with kind := 13, ae := (rdV s (0, false) 1), plen := (rdV s (nx s 1 (0, false)) 1), seq := (rdV s (nx s 1 (nx s 1 (0, false))) 2), hops := (rdV s (nx s 2 (nx s 1 (nx s 1 (0, false)))) 1), id := (rdT s (nx s 1 (nx s 1 (nx s 2 (nx s 1 (nx s 1 (0, false)))))) 8) }
/-- What update takes. -/
def R8 (s : ByteArray) : Up := { Up.zero with ae := (rdV s (0, false) 1), flags := (rdV s (nx s 1 (0, false)) 1), plen := (rdV s (nx s 1 (nx s 1 (0, false))) 1), om := (rdV s (nx s 1 (nx s 1 (nx s 1 (0, false)))) 1), iv := (rdV s (nx s 1 (nx s 1 (nx s 1 (nx s 1 (0, false))))) 2), seq := (rdV s (nx s 2 (nx s 1 (nx s 1 (nx s 1 (nx s 1 (0, false)))))) 2), metric := (rdV s (nx s 2 (nx s 2 (nx s 1 (nx s 1 (nx s 1 (nx s 1 (0, false))))))) 2) }
set_option maxHeartbeats 6400000 in
theorem update_any (s : ByteArray) (b : Nat) (hs : s.size ≤ maxLen) (w : World) (hb : Bk 108 w b (cu s (0, false))) :
    Calls Tryd.prog 74 #[.pointer (some ⟨b, 0, none⟩)] w (Took (.agg (R8 s).cells) s (nx s 2 (nx s 2 (nx s 2 (nx s 1 (nx s 1 (nx s 1 (nx s 1 (0, false)))))))) b w) := by
  show Calls _ _ _ _ (Took (.agg (Up.cells ({ Up.zero with ae := (rdV s (0, false) 1), flags := (rdV s (nx s 1 (0, false)) 1), plen := (rdV s (nx s 1 (nx s 1 (0, false))) 1), om := (rdV s (nx s 1 (nx s 1 (nx s 1 (0, false)))) 1), iv := (rdV s (nx s 1 (nx s 1 (nx s 1 (nx s 1 (0, false))))) 2), seq := (rdV s (nx s 2 (nx s 1 (nx s 1 (nx s 1 (nx s 1 (0, false)))))) 2), metric := (rdV s (nx s 2 (nx s 2 (nx s 1 (nx s 1 (nx s 1 (nx s 1 (0, false))))))) 2) } : Up))) s (nx s 2 (nx s 2 (nx s 2 (nx s 1 (nx s 1 (nx s 1 (nx s 1 (0, false)))))))) b w)
  go_enter Tryd.func74, Tryd.ntmps74
  go_upto_region 2 with fail
  change Code.wp _ _ _ _ ((w.alloc (.cells Up.zero.cells 66)).alloc (.cells Up.zero.cells 66))
  have hz := alloc_size w (.cells Up.zero.cells 66)
  have HG := Lib.hid (R.plain (T := 66) w s Up.zero.cells hb (Nat.zero_le _))
  clear hb
  generalize (w.alloc (.cells Up.zero.cells 66)).alloc (.cells Up.zero.cells 66) = V at *
  try rw [hz]
  clear hz
  go_wp2_with fail
  refine (rdnum s (0, false) 1 b 1 rfl hs HG.out.le (by omega) (by omega) _ HG.out.rd).mono ?_
  intro e V9 ht
  have G0 := HG.out.step ht
  obtain ⟨rfl, ht⟩ := ht
  clear ht HG
  have d := G0.msg.cell 0 (.int .i64 0) rfl
  have fd := G0.msg.frozen 0
  have HG := Lib.hid (show R 66 w (V9.setCell ⟨w.heap.size + 1, 0, none⟩ (.int .i64 (rdV s (0, false) 1))) b (w.heap.size + 1) s Up.zero.cells (Up.cells ({ Up.zero with ae := (rdV s (0, false) 1) } : Up)) (nx s 1 (0, false)) from G0.set rfl)
  clear G0
  go_upto_region 3 with fail
  clear d fd
  generalize V9.setCell ⟨w.heap.size + 1, 0, none⟩ (.int .i64 (rdV s (0, false) 1)) = W9 at *
  go_wp2_with fail
  refine (rdnum s (nx s 1 (0, false)) 1 b 1 rfl hs HG.out.le (by omega) (by omega) _ HG.out.rd).mono ?_
  intro e V10 ht
  have G0 := HG.out.step ht
  obtain ⟨rfl, ht⟩ := ht
  clear ht HG
  have d := G0.msg.cell 1 (.int .i64 0) rfl
  have fd := G0.msg.frozen 1
  have HG := Lib.hid (show R 66 w (V10.setCell ⟨w.heap.size + 1, 1, none⟩ (.int .i64 (rdV s (nx s 1 (0, false)) 1))) b (w.heap.size + 1) s Up.zero.cells (Up.cells ({ Up.zero with ae := (rdV s (0, false) 1), flags := (rdV s (nx s 1 (0, false)) 1) } : Up)) (nx s 1 (nx s 1 (0, false))) from G0.set rfl)
  clear G0
  go_upto_region 4 with fail
  clear d fd
  generalize V10.setCell ⟨w.heap.size + 1, 1, none⟩ (.int .i64 (rdV s (nx s 1 (0, false)) 1)) = W10 at *
  go_wp2_with fail
  refine (rdnum s (nx s 1 (nx s 1 (0, false))) 1 b 1 rfl hs HG.out.le (by omega) (by omega) _ HG.out.rd).mono ?_
  intro e V11 ht
  have G0 := HG.out.step ht
  obtain ⟨rfl, ht⟩ := ht
  clear ht HG
  have d := G0.msg.cell 2 (.int .i64 0) rfl
  have fd := G0.msg.frozen 2
  have HG := Lib.hid (show R 66 w (V11.setCell ⟨w.heap.size + 1, 2, none⟩ (.int .i64 (rdV s (nx s 1 (nx s 1 (0, false))) 1))) b (w.heap.size + 1) s Up.zero.cells (Up.cells ({ Up.zero with ae := (rdV s (0, false) 1), flags := (rdV s (nx s 1 (0, false)) 1), plen := (rdV s (nx s 1 (nx s 1 (0, false))) 1) } : Up)) (nx s 1 (nx s 1 (nx s 1 (0, false)))) from G0.set rfl)
  clear G0
  go_upto_region 5 with fail
  clear d fd
  generalize V11.setCell ⟨w.heap.size + 1, 2, none⟩ (.int .i64 (rdV s (nx s 1 (nx s 1 (0, false))) 1)) = W11 at *
  go_wp2_with fail
  refine (rdnum s (nx s 1 (nx s 1 (nx s 1 (0, false)))) 1 b 1 rfl hs HG.out.le (by omega) (by omega) _ HG.out.rd).mono ?_
  intro e V12 ht
  have G0 := HG.out.step ht
  obtain ⟨rfl, ht⟩ := ht
  clear ht HG
  have d := G0.msg.cell 3 (.int .i64 0) rfl
  have fd := G0.msg.frozen 3
  have HG := Lib.hid (show R 66 w (V12.setCell ⟨w.heap.size + 1, 3, none⟩ (.int .i64 (rdV s (nx s 1 (nx s 1 (nx s 1 (0, false)))) 1))) b (w.heap.size + 1) s Up.zero.cells (Up.cells ({ Up.zero with ae := (rdV s (0, false) 1), flags := (rdV s (nx s 1 (0, false)) 1), plen := (rdV s (nx s 1 (nx s 1 (0, false))) 1), om := (rdV s (nx s 1 (nx s 1 (nx s 1 (0, false)))) 1) } : Up)) (nx s 1 (nx s 1 (nx s 1 (nx s 1 (0, false))))) from G0.set rfl)
  clear G0
  go_upto_region 6 with fail
  clear d fd
  generalize V12.setCell ⟨w.heap.size + 1, 3, none⟩ (.int .i64 (rdV s (nx s 1 (nx s 1 (nx s 1 (0, false)))) 1)) = W12 at *
  go_wp2_with fail
  refine (rdnum s (nx s 1 (nx s 1 (nx s 1 (nx s 1 (0, false))))) 2 b 2 rfl hs HG.out.le (by omega) (by omega) _ HG.out.rd).mono ?_
  intro e V13 ht
  have G0 := HG.out.step ht
  obtain ⟨rfl, ht⟩ := ht
  clear ht HG
  have d := G0.msg.cell 4 (.int .i64 0) rfl
  have fd := G0.msg.frozen 4
  have HG := Lib.hid (show R 66 w (V13.setCell ⟨w.heap.size + 1, 4, none⟩ (.int .i64 (rdV s (nx s 1 (nx s 1 (nx s 1 (nx s 1 (0, false))))) 2))) b (w.heap.size + 1) s Up.zero.cells (Up.cells ({ Up.zero with ae := (rdV s (0, false) 1), flags := (rdV s (nx s 1 (0, false)) 1), plen := (rdV s (nx s 1 (nx s 1 (0, false))) 1), om := (rdV s (nx s 1 (nx s 1 (nx s 1 (0, false)))) 1), iv := (rdV s (nx s 1 (nx s 1 (nx s 1 (nx s 1 (0, false))))) 2) } : Up)) (nx s 2 (nx s 1 (nx s 1 (nx s 1 (nx s 1 (0, false)))))) from G0.set rfl)
  clear G0
  go_upto_region 7 with fail
  clear d fd
  generalize V13.setCell ⟨w.heap.size + 1, 4, none⟩ (.int .i64 (rdV s (nx s 1 (nx s 1 (nx s 1 (nx s 1 (0, false))))) 2)) = W13 at *
  go_wp2_with fail
  refine (rdnum s (nx s 2 (nx s 1 (nx s 1 (nx s 1 (nx s 1 (0, false)))))) 2 b 2 rfl hs HG.out.le (by omega) (by omega) _ HG.out.rd).mono ?_
  intro e V14 ht
  have G0 := HG.out.step ht
  obtain ⟨rfl, ht⟩ := ht
  clear ht HG
  have d := G0.msg.cell 5 (.int .i64 0) rfl
  have fd := G0.msg.frozen 5
  have HG := Lib.hid (show R 66 w (V14.setCell ⟨w.heap.size + 1, 5, none⟩ (.int .i64 (rdV s (nx s 2 (nx s 1 (nx s 1 (nx s 1 (nx s 1 (0, false)))))) 2))) b (w.heap.size + 1) s Up.zero.cells (Up.cells ({ Up.zero with ae := (rdV s (0, false) 1), flags := (rdV s (nx s 1 (0, false)) 1), plen := (rdV s (nx s 1 (nx s 1 (0, false))) 1), om := (rdV s (nx s 1 (nx s 1 (nx s 1 (0, false)))) 1), iv := (rdV s (nx s 1 (nx s 1 (nx s 1 (nx s 1 (0, false))))) 2), seq := (rdV s (nx s 2 (nx s 1 (nx s 1 (nx s 1 (nx s 1 (0, false)))))) 2) } : Up)) (nx s 2 (nx s 2 (nx s 1 (nx s 1 (nx s 1 (nx s 1 (0, false))))))) from G0.set rfl)
  clear G0
  go_upto_region 8 with fail
  clear d fd
  generalize V14.setCell ⟨w.heap.size + 1, 5, none⟩ (.int .i64 (rdV s (nx s 2 (nx s 1 (nx s 1 (nx s 1 (nx s 1 (0, false)))))) 2)) = W14 at *
  go_wp2_with fail
  refine (rdnum s (nx s 2 (nx s 2 (nx s 1 (nx s 1 (nx s 1 (nx s 1 (0, false))))))) 2 b 2 rfl hs HG.out.le (by omega) (by omega) _ HG.out.rd).mono ?_
  intro e V15 ht
  have G0 := HG.out.step ht
  obtain ⟨rfl, ht⟩ := ht
  clear ht HG
  have d := G0.msg.cell 6 (.int .i64 0) rfl
  have fd := G0.msg.frozen 6
  have HG := Lib.hid (show R 66 w (V15.setCell ⟨w.heap.size + 1, 6, none⟩ (.int .i64 (rdV s (nx s 2 (nx s 2 (nx s 1 (nx s 1 (nx s 1 (nx s 1 (0, false))))))) 2))) b (w.heap.size + 1) s Up.zero.cells (Up.cells ({ Up.zero with ae := (rdV s (0, false) 1), flags := (rdV s (nx s 1 (0, false)) 1), plen := (rdV s (nx s 1 (nx s 1 (0, false))) 1), om := (rdV s (nx s 1 (nx s 1 (nx s 1 (0, false)))) 1), iv := (rdV s (nx s 1 (nx s 1 (nx s 1 (nx s 1 (0, false))))) 2), seq := (rdV s (nx s 2 (nx s 1 (nx s 1 (nx s 1 (nx s 1 (0, false)))))) 2), metric := (rdV s (nx s 2 (nx s 2 (nx s 1 (nx s 1 (nx s 1 (nx s 1 (0, false))))))) 2) } : Up)) (nx s 2 (nx s 2 (nx s 2 (nx s 1 (nx s 1 (nx s 1 (nx s 1 (0, false)))))))) from G0.set rfl)
  clear G0
  go_upto_region 9 with fail
  clear d fd
  generalize V15.setCell ⟨w.heap.size + 1, 6, none⟩ (.int .i64 (rdV s (nx s 2 (nx s 2 (nx s 1 (nx s 1 (nx s 1 (nx s 1 (0, false))))))) 2)) = W15 at *
  have HE := Lib.hid (HG.out.ends (Up.cells ({ Up.zero with ae := (rdV s (0, false) 1), flags := (rdV s (nx s 1 (0, false)) 1), plen := (rdV s (nx s 1 (nx s 1 (0, false))) 1), om := (rdV s (nx s 1 (nx s 1 (nx s 1 (0, false)))) 1), iv := (rdV s (nx s 1 (nx s 1 (nx s 1 (nx s 1 (0, false))))) 2), seq := (rdV s (nx s 2 (nx s 1 (nx s 1 (nx s 1 (nx s 1 (0, false)))))) 2), metric := (rdV s (nx s 2 (nx s 2 (nx s 1 (nx s 1 (nx s 1 (nx s 1 (0, false))))))) 2) } : Up)))
  go_wp2_with (first | (refine wpList_loadU (b := w.heap.size + 1) (m := ({ Up.zero with ae := (rdV s (0, false) 1), flags := (rdV s (nx s 1 (0, false)) 1), plen := (rdV s (nx s 1 (nx s 1 (0, false))) 1), om := (rdV s (nx s 1 (nx s 1 (nx s 1 (0, false)))) 1), iv := (rdV s (nx s 1 (nx s 1 (nx s 1 (nx s 1 (0, false))))) 2), seq := (rdV s (nx s 2 (nx s 1 (nx s 1 (nx s 1 (nx s 1 (0, false)))))) 2), metric := (rdV s (nx s 2 (nx s 2 (nx s 1 (nx s 1 (nx s 1 (nx s 1 (0, false))))))) 2) } : Up)) rfl _ rfl rfl HG.out.msg ?_) | (refine wpList_storeU (b := w.heap.size) (m := Up.zero) (m' := ({ Up.zero with ae := (rdV s (0, false) 1), flags := (rdV s (nx s 1 (0, false)) 1), plen := (rdV s (nx s 1 (nx s 1 (0, false))) 1), om := (rdV s (nx s 1 (nx s 1 (nx s 1 (0, false)))) 1), iv := (rdV s (nx s 1 (nx s 1 (nx s 1 (nx s 1 (0, false))))) 2), seq := (rdV s (nx s 2 (nx s 1 (nx s 1 (nx s 1 (nx s 1 (0, false)))))) 2), metric := (rdV s (nx s 2 (nx s 2 (nx s 1 (nx s 1 (nx s 1 (nx s 1 (0, false))))))) 2) } : Up)) rfl _ _ rfl rfl rfl HG.out.res ?_))
  exact bodyPost_ret (v := .agg (Up.cells ({ Up.zero with ae := (rdV s (0, false) 1), flags := (rdV s (nx s 1 (0, false)) 1), plen := (rdV s (nx s 1 (nx s 1 (0, false))) 1), om := (rdV s (nx s 1 (nx s 1 (nx s 1 (0, false)))) 1), iv := (rdV s (nx s 1 (nx s 1 (nx s 1 (nx s 1 (0, false))))) 2), seq := (rdV s (nx s 2 (nx s 1 (nx s 1 (nx s 1 (nx s 1 (0, false)))))) 2), metric := (rdV s (nx s 2 (nx s 2 (nx s 1 (nx s 1 (nx s 1 (nx s 1 (0, false))))))) 2) } : Up))) (results_one rfl _ _ w.heap.size _ rfl shU HE.out.1 rfl) rfl ⟨rfl, HE.out.2.1, HE.out.2.2⟩
/-- What request takes. -/
def RQ (t : Int) (s : ByteArray) : M := if t = 10 then R10 s else R9 s
def pQ (t : Int) (s : ByteArray) : Nat × Bool := if t = 10 then (nx s 8 (nx s 1 (nx s 1 (nx s 2 (nx s 1 (nx s 1 (0, false))))))) else (nx s 1 (nx s 1 (0, false)))
def TookB (m : M) (c : Bool) (s : ByteArray) (p : Nat × Bool) (b : Nat) (w : World) (e : Ending) (w' : World) : Prop := e = .returned (.tuple #[.agg m.cells, .bool c]) ∧ Bk 108 w' b (cu s p) ∧ Bel w.heap.size b w w'
theorem took_row {v : Value} {s : ByteArray} {p : Nat × Bool} {b : Nat} {w W w1 : World} {e : Ending} {X : M} {c : Bool} (hk : Took v s p b W e w1) (hw : Below w.heap.size w W) (hz : W.heap.size = w.heap.size + 1) (hb : b < w.heap.size) :
    TookB X c s p b w (.returned (.tuple #[.agg X.cells, .bool c])) (w1.setRow w.heap.size X.cells) :=
  ⟨rfl, hk.2.1.row (by omega) _, ((Bel.of hw).trans (hk.2.2.mono (by omega))).row (Nat.le_refl _) _⟩
end Go.Proofs.YteecialdkfaejaaDoor.J4
