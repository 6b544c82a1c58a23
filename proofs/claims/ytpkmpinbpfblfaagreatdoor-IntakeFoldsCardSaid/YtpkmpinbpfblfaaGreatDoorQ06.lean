/-
  The program's calls on the reader: a number, a text, the rest, the fields of each type. Conditions: at most 2^20 bytes.
  The program's Split, and its taking of one TLV by a cursor. Condition: at most 100000 bytes, from a place of at most 2^40 on.
  The TLVs of bytes: the program's Split. Condition: at most 100000 bytes, from a place of at most 2^40 on.
  Which Subs bytes hold: the program's sift and Get. Condition: at most 100000 bytes.
-/
import Derived.Test.YtpkmpinbpfblfaaGreatDoorQ02
import Derived.Test.YtpkmpinbpfblfaaGreatDoorQ04
import Derived.Test.YtpkmpinbpfblfaaGreatDoorQ05
namespace Go.Proofs.YtpkmpinbpfblfaaGreatDoor.J4
open Go.ChangeShapes Go.WideShapes Go.ChangeAt Go.RowKit
open Go.Proofs.YtpkmpinbpfblfaaGreatDoor.Ms
open Go.Proofs.YtpkmpinbpfblfaaGreatDoor.Box
open Go.Proofs.YtpkmpinbpfblfaaGreatDoor.Nu
open Go.Proofs.YtpkmpinbpfblfaaGreatDoor.J1
open Go.Proofs.YtpkmpinbpfblfaaGreatDoor.J2
open Go.Proofs.YtpkmpinbpfblfaaGreatDoor.An
open Go.Proofs.YtpkmpinbpfblfaaGreatDoor.Tc
open Go.Proofs.YtpkmpinbpfblfaaGreatDoor.Rg
open Go.Proofs.YtpkmpinbpfblfaaGreatDoor.F1 (bt bt_nn bt_lt num_one num_two)
open Go.Proofs.YtpkmpinbpfblfaaGreatDoor.Cur (numL left_ok)
open Go.Proofs.YtpkmpinbpfblfaaGreatDoor.Bk (Bk Sh shC cur cur_one loadVarK wpList_builtK wpList_loadK wpList_storeK run_loadK alloc_size results_one results_pair)
open Go.Proofs.YtpkmpinbpfblfaaGreatDoor.Hs
set_option linter.unusedVariables false
set_option maxRecDepth 100000
set_option maxRecDepth 100000
/-- What a call on the reader in block b leaves: the answer, the place. -/
def Took (v : Value) (s : ByteArray) (p : Nat × Bool) (b : Nat) (w : World) (e : Ending) (w' : World) : Prop := e = .returned v ∧ Bk 85 w' b (cu s p) ∧ Bel w.heap.size b w w'
set_option maxHeartbeats 800000 in
theorem rdnum (s : ByteArray) (p : Nat × Bool) (k b : Nat) (ki : Int) (hki : ki = k) (hs : s.size ≤ maxLen) (hp : p.1 ≤ s.size) (h4 : 1 ≤ k) (h5 : k ≤ 7) (w : World) (hb : Bk 85 w b (cu s p)) :
    Calls Tryz.prog 100 #[.pointer (some ⟨b, 0, none⟩), .int .i64 ki] w (Took (.int .i64 (rdV s p k)) s (nx s k p) b w) := by
  have P := Lib.hid (cnum s p k ki hki hs hp h4 h5 w)
  have HQ := Lib.hid (show cu s (nx s k p) = #[.string s, .int .i64 ((nx s k p).1 : Int), .int .i64 (s.size : Int), .bool (nx s k p).2] from rfl)
  have HB := Lib.hid hb
  have hlt := hb.lt
  clear hb hki hp
  unfold Took
  generalize rdV s p k = v at *
  generalize nx s k p = q at *
  rw [HQ.out]
  clear HQ
  go_enter Tryz.func100, Tryz.ntmps100
  go_wp2_with (first | (refine wpList_loadK shC rfl _ rfl rfl HB.out rfl ?_))
  refine P.out.mono ?_
  rintro e w1 ⟨rfl, hb1⟩
  have HB1 := Lib.hid (HB.out.below hb1)
  have hlt1 := HB1.out.lt
  go_wp2_with (first | (refine wpList_storeK (b := b) shC rfl _ _ rfl rfl rfl (HB1.out.old _) rfl rfl (cur_one s (q.1 : Int) s.size q.2) ?_))
  go_ret
  exact ⟨rfl, (HB1.out.old _).put _, (Bel.of (hb1.alloc hb1.size _)).trans (Bel.rowb _ _)⟩
set_option maxHeartbeats 800000 in
theorem rdtext (s : ByteArray) (p : Nat × Bool) (k b : Nat) (ki : Int) (hki : ki = k) (hs : s.size ≤ maxLen) (hp : p.1 ≤ s.size) (w : World) (hb : Bk 85 w b (cu s p)) :
    Calls Tryz.prog 77 #[.pointer (some ⟨b, 0, none⟩), .int .i64 ki] w (Took (.string (rdT s p k)) s (nx s k p) b w) := by
  have P := Lib.hid (ctext s p k ki hki hs hp w)
  have HQ := Lib.hid (show cu s (nx s k p) = #[.string s, .int .i64 ((nx s k p).1 : Int), .int .i64 (s.size : Int), .bool (nx s k p).2] from rfl)
  have HB := Lib.hid hb
  have hlt := hb.lt
  clear hb hki hp
  unfold Took
  generalize rdT s p k = v at *
  generalize nx s k p = q at *
  rw [HQ.out]
  clear HQ
  go_enter Tryz.func77, Tryz.ntmps77
  go_wp2_with (first | (refine wpList_loadK shC rfl _ rfl rfl HB.out rfl ?_))
  refine P.out.mono ?_
  rintro e w1 ⟨rfl, hb1⟩
  have HB1 := Lib.hid (HB.out.below hb1)
  have hlt1 := HB1.out.lt
  go_wp2_with (first | (refine wpList_storeK (b := b) shC rfl _ _ rfl rfl rfl (HB1.out.old _) rfl rfl (cur_one s (q.1 : Int) s.size q.2) ?_))
  go_ret
  exact ⟨rfl, (HB1.out.old _).put _, (Bel.of (hb1.alloc hb1.size _)).trans (Bel.rowb _ _)⟩
set_option maxHeartbeats 800000 in
theorem rest_any (s : ByteArray) (a b : Nat) (hs : s.size ≤ maxLen) (ha : a ≤ s.size) (w : World) (hb : Bk 85 w b (cu s (a, false))) :
    Calls Tryz.prog 78 #[.pointer (some ⟨b, 0, none⟩)] w (Took (.string (s.extract a s.size)) s (s.size, false) b w) := by
  have hm := hs
  unfold maxLen at hm
  have PL := Lib.hid (left_ok s a s.size w)
  rw [IntWalk.wrap64_in _ ⟨by omega, by omega⟩] at PL
  have PT := Lib.hid (fun V (h : Bk 85 V b (cu s (a, false))) => rdtext s (a, false) (s.size - a) b ((s.size : Int) - a) (by omega) hs ha V h)
  have e1 : nx s (s.size - a) (a, false) = (s.size, false) := by rw [nx_yes (by omega)]; simp; omega
  have e2 : rdT s (a, false) (s.size - a) = s.extract a s.size := by rw [t_yes (by omega)]; congr 1; omega
  rw [e1, e2] at PT
  have HB := Lib.hid hb
  clear hb hs hm ha e1 e2
  go_enter Tryz.func78, Tryz.ntmps78
  go_wp2_with (first | (refine wpList_loadK shC rfl _ rfl rfl HB.out rfl ?_))
  refine PL.out.mono ?_
  rintro e w1 ⟨rfl, hb1⟩
  have HB := Lib.hid (HB.out.below hb1)
  have HL := Lib.hid (show Bel w.heap.size b w w1 from Bel.of hb1)
  have hsz := hb1.size
  clear hb1 PL
  go_wp2_with fail
  refine (PT.out _ HB.out).mono ?_
  rintro e w2 ⟨rfl, h1, h2⟩
  have HX := Lib.hid h1
  have HL := Lib.hid (HL.out.trans (h2.mono hsz))
  clear h1 h2
  go_wp2
  go_ret
  exact ⟨rfl, HX.out, HL.out⟩
/-- What stands in the middle of fields: the answer's block, the cells in block mb (a struct of the type T), the reader in block b. -/
structure R (T : TypeId) (w0 W : World) (b mb : Nat) (s : ByteArray) (zs cs : Array Value) (p : Nat × Bool) : Prop where
  msg : Bk T W mb cs
  rd : Bk 85 W b (cu s p)
  res : Bk T W w0.heap.size zs
  o1 : w0.heap.size < mb
  o2 : b < w0.heap.size
  bel : Bel w0.heap.size b w0 W
  le : p.1 ≤ s.size
section
variable {T : TypeId} {w0 W W' : World} {b mb : Nat} {s : ByteArray} {zs cs cs' : Array Value} {p p' : Nat × Bool}
theorem R.step {v : Value} {k : Nat} {e : Ending} (g : R T w0 W b mb s zs cs p) (h : Took v s (nx s k p) b W e W') : R T w0 W' b mb s zs cs (nx s k p) :=
  ⟨h.2.2.bk (by have := g.o1; have := g.o2; omega) g.msg, h.2.1, h.2.2.bk (by have := g.o2; omega) g.res, g.o1, g.o2, g.bel.trans (h.2.2.mono g.bel.size), nx_le g.le⟩
theorem R.set (g : R T w0 W b mb s zs cs p) {i : Nat} {v : Value} (hm : cs.setIfInBounds i v = cs') : R T w0 (W.setCell ⟨mb, i, none⟩ v) b mb s zs cs' p :=
  ⟨g.msg.set hm, g.rd.off (by have := g.o1; have := g.o2; show b ≠ mb; omega) _, g.res.off (by have := g.o1; show w0.heap.size ≠ mb; omega) _, g.o1, g.o2, g.bel.cell (p := ⟨mb, i, none⟩) (by have := g.o1; show w0.heap.size ≤ mb; omega) _, g.le⟩
theorem R.start (w : World) (s : ByteArray) (zs m0 : Array Value) (hb : Bk 85 w b (cu s p)) (hp : p.1 ≤ s.size) :
    R T w (((w.alloc (.cells zs T)).alloc (.cells zs T)).setRow (w.heap.size + 1) m0) b (w.heap.size + 1) s zs m0 p := by
  have A := Bk.Bk.new T (w.alloc (.cells zs T)) zs
  rw [alloc_size] at A
  have hl := hb.lt
  exact ⟨A.put _, ((hb.old _).old _).row (by omega) _, ((Bk.Bk.new T w zs).old _).row (by omega) _, by omega, hl,
    (Bel.of (balloc (balloc (Below.refl _ w) _) _)).row (by omega) _, hp⟩
theorem R.plain (w : World) (s : ByteArray) (zs : Array Value) (hb : Bk 85 w b (cu s p)) (hp : p.1 ≤ s.size) :
    R T w ((w.alloc (.cells zs T)).alloc (.cells zs T)) b (w.heap.size + 1) s zs zs p := by
  have A := Bk.Bk.new T (w.alloc (.cells zs T)) zs
  rw [alloc_size] at A
  have hl := hb.lt
  exact ⟨A, (hb.old _).old _, (Bk.Bk.new T w zs).old _, by omega, hl, Bel.of (balloc (balloc (Below.refl _ w) _) _), hp⟩
theorem R.ends (g : R T w0 W b mb s zs cs p) (r : Array Value) : Bk T (W.setRow w0.heap.size r) w0.heap.size r ∧ Bk 85 (W.setRow w0.heap.size r) b (cu s p) ∧ Bel w0.heap.size b w0 (W.setRow w0.heap.size r) :=
  ⟨g.res.put _, g.rd.row (by have := g.o2; omega) _, g.bel.row (Nat.le_refl _) _⟩
end
theorem shM : Sh Tryz.prog 43 25 := ⟨_, Tryz.underlying43, by kernel_rfl⟩
theorem shU : Sh Tryz.prog 119 10 := ⟨_, Tryz.underlying119, by kernel_rfl⟩
theorem oneU (x : Up) : (x.cells.all fun x => x.oneCell') = true := by simp [Up.cells, Value.oneCell']
theorem wpList_loadU {ops : Array Oper} {rest : List Oper} {o : Oper} {a : Act} {w : World} {Q : Exit → Act → World → Prop} (hgd : o.guard = none) (x : Operand) (ho : o.op = .load 119 x) {b : Nat} (hx : a.eval x = .pointer (some ⟨b, 0, none⟩)) {m : Up} (hb : Bk 119 w b m.cells)
    (h : wpList Tryz.prog ops Q rest (a.put o.dst (.agg m.cells)) w) : wpList Tryz.prog ops Q (o :: rest) a w := wpList_loadK shU hgd x ho hx hb rfl h
theorem wpList_storeU {ops : Array Oper} {rest : List Oper} {o : Oper} {a : Act} {w : World} {Q : Exit → Act → World → Prop} (hgd : o.guard = none) (x y : Operand) (ho : o.op = .store 119 x y) {b : Nat} (hx : a.eval x = .pointer (some ⟨b, 0, none⟩)) {m m' : Up} (hy : a.eval y = .agg m'.cells) (hb : Bk 119 w b m.cells)
    (h : wpList Tryz.prog ops Q rest (a.put o.dst undef) (w.setRow b m'.cells)) : wpList Tryz.prog ops Q (o :: rest) a w := wpList_storeK shU hgd x y ho hx hy hb rfl rfl (oneU m') h
/-- What routeReq takes. -/
def R9 (s : ByteArray) : M := { M.zero with kind := 12, ae := (rdV s (0, false) 1), plen := (rdV s (nx s 1 (0, false)) 1) }
set_option maxHeartbeats 6400000 in
theorem route_any (s : ByteArray) (b : Nat) (hs : s.size ≤ maxLen) (w : World) (hb : Bk 85 w b (cu s (0, false))) :
    Calls Tryz.prog 72 #[.pointer (some ⟨b, 0, none⟩)] w (Took (.agg (R9 s).cells) s (nx s 1 (nx s 1 (0, false))) b w) := by
  show Calls _ _ _ _ (Took (.agg (M.cells ({ M.zero with kind := 12, ae := (rdV s (0, false) 1), plen := (rdV s (nx s 1 (0, false)) 1) } : M))) s (nx s 1 (nx s 1 (0, false))) b w)
  go_enter Tryz.func72, Tryz.ntmps72
  go_upto_region 1 with fail
  change Code.wp _ _ _ _ (w.alloc (.cells M.zero.cells 43))
  have hz := alloc_size w (.cells M.zero.cells 43)
  have A0 := Bx.new (w.alloc (.cells M.zero.cells 43)) M.zero
  rw [hz] at A0
  have HG := Lib.hid (R.start (T := 43) w s M.zero.cells (M.cells ({ M.zero with kind := 12 } : M)) hb (Nat.zero_le _))
  clear hb
  generalize w.alloc (.cells M.zero.cells 43) = W at *
  go_upto_region 2 with (first | (refine wpList_builtK rfl 43 _ rfl (M.cells ({ M.zero with kind := 12 } : M)) (by kernel_rfl) ?_) | (change wpList _ _ _ _ _ (W.alloc (.cells M.zero.cells 43)); refine wpList_storeM (b := w.heap.size + 1) (m := M.zero) (m' := ({ M.zero with kind := 12 } : M)) rfl _ _ rfl (by first | rfl | (rw [← hz]; rfl)) rfl A0 ?_))
  try rw [hz]
  clear A0 hz
  generalize (W.alloc (.cells M.zero.cells 43)).setRow (w.heap.size + 1) _ = V at *
  clear W
  go_wp2_with fail
  refine (rdnum s (0, false) 1 b 1 rfl hs HG.out.le (by omega) (by omega) _ HG.out.rd).mono ?_
  intro e V1 ht
  have G0 := HG.out.step ht
  obtain ⟨rfl, ht⟩ := ht
  clear ht HG
  have d := G0.msg.cell 5 (.int .i64 0) rfl
  have fd := G0.msg.frozen 5
  have HG := Lib.hid (show R 43 w (V1.setCell ⟨w.heap.size + 1, 5, none⟩ (.int .i64 (rdV s (0, false) 1))) b (w.heap.size + 1) s M.zero.cells (M.cells ({ M.zero with kind := 12, ae := (rdV s (0, false) 1) } : M)) (nx s 1 (0, false)) from G0.set rfl)
  clear G0
  go_upto_region 3 with fail
  clear d fd
  generalize V1.setCell ⟨w.heap.size + 1, 5, none⟩ (.int .i64 (rdV s (0, false) 1)) = W1 at *
  go_wp2_with fail
  refine (rdnum s (nx s 1 (0, false)) 1 b 1 rfl hs HG.out.le (by omega) (by omega) _ HG.out.rd).mono ?_
  intro e V2 ht
  have G0 := HG.out.step ht
  obtain ⟨rfl, ht⟩ := ht
  clear ht HG
  have d := G0.msg.cell 7 (.int .i64 0) rfl
  have fd := G0.msg.frozen 7
  have HG := Lib.hid (show R 43 w (V2.setCell ⟨w.heap.size + 1, 7, none⟩ (.int .i64 (rdV s (nx s 1 (0, false)) 1))) b (w.heap.size + 1) s M.zero.cells (M.cells ({ M.zero with kind := 12, ae := (rdV s (0, false) 1), plen := (rdV s (nx s 1 (0, false)) 1) } : M)) (nx s 1 (nx s 1 (0, false))) from G0.set rfl)
  clear G0
  go_upto_region 4 with fail
  clear d fd
  generalize V2.setCell ⟨w.heap.size + 1, 7, none⟩ (.int .i64 (rdV s (nx s 1 (0, false)) 1)) = W2 at *
  have HE := Lib.hid (HG.out.ends (M.cells ({ M.zero with kind := 12, ae := (rdV s (0, false) 1), plen := (rdV s (nx s 1 (0, false)) 1) } : M)))
  go_wp2_with (first | (refine wpList_loadM (b := w.heap.size + 1) (m := ({ M.zero with kind := 12, ae := (rdV s (0, false) 1), plen := (rdV s (nx s 1 (0, false)) 1) } : M)) rfl _ rfl rfl HG.out.msg ?_) | (refine wpList_storeM (b := w.heap.size) (m := M.zero) (m' := ({ M.zero with kind := 12, ae := (rdV s (0, false) 1), plen := (rdV s (nx s 1 (0, false)) 1) } : M)) rfl _ _ rfl rfl rfl HG.out.res ?_))
  exact bodyPost_ret (v := .agg (M.cells ({ M.zero with kind := 12, ae := (rdV s (0, false) 1), plen := (rdV s (nx s 1 (0, false)) 1) } : M))) (results_one rfl _ _ w.heap.size _ rfl shM HE.out.1 rfl) rfl ⟨rfl, HE.out.2.1, HE.out.2.2⟩
/-- What seqnoReq takes. -/
def R10 (s : ByteArray) : M := { M.zero with kind := 13, ae := (rdV s (0, false) 1), plen := (rdV s (nx s 1 (0, false)) 1), seq := (rdV s (nx s 1 (nx s 1 (0, false))) 2), hops := (rdV s (nx s 2 (nx s 1 (nx s 1 (0, false)))) 1), id := (rdT s (nx s 1 (nx s 1 (nx s 2 (nx s 1 (nx s 1 (0, false)))))) 8) }
set_option maxHeartbeats 6400000 in
theorem seqno_any (s : ByteArray) (b : Nat) (hs : s.size ≤ maxLen) (w : World) (hb : Bk 85 w b (cu s (0, false))) :
    Calls Tryz.prog 73 #[.pointer (some ⟨b, 0, none⟩)] w (Took (.agg (R10 s).cells) s (nx s 8 (nx s 1 (nx s 1 (nx s 2 (nx s 1 (nx s 1 (0, false))))))) b w) := by
  show Calls _ _ _ _ (Took (.agg (M.cells ({ M.zero with kind := 13, ae := (rdV s (0, false) 1), plen := (rdV s (nx s 1 (0, false)) 1), seq := (rdV s (nx s 1 (nx s 1 (0, false))) 2), hops := (rdV s (nx s 2 (nx s 1 (nx s 1 (0, false)))) 1), id := (rdT s (nx s 1 (nx s 1 (nx s 2 (nx s 1 (nx s 1 (0, false)))))) 8) } : M))) s (nx s 8 (nx s 1 (nx s 1 (nx s 2 (nx s 1 (nx s 1 (0, false))))))) b w)
  go_enter Tryz.func73, Tryz.ntmps73
  go_upto_region 1 with fail
  change Code.wp _ _ _ _ (w.alloc (.cells M.zero.cells 43))
  have hz := alloc_size w (.cells M.zero.cells 43)
  have A0 := Bx.new (w.alloc (.cells M.zero.cells 43)) M.zero
  rw [hz] at A0
  have HG := Lib.hid (R.start (T := 43) w s M.zero.cells (M.cells ({ M.zero with kind := 13 } : M)) hb (Nat.zero_le _))
  clear hb
  generalize w.alloc (.cells M.zero.cells 43) = W at *
  go_upto_region 2 with (first | (refine wpList_builtK rfl 43 _ rfl (M.cells ({ M.zero with kind := 13 } : M)) (by kernel_rfl) ?_) | (change wpList _ _ _ _ _ (W.alloc (.cells M.zero.cells 43)); refine wpList_storeM (b := w.heap.size + 1) (m := M.zero) (m' := ({ M.zero with kind := 13 } : M)) rfl _ _ rfl (by first | rfl | (rw [← hz]; rfl)) rfl A0 ?_))
  try rw [hz]
  clear A0 hz
  generalize (W.alloc (.cells M.zero.cells 43)).setRow (w.heap.size + 1) _ = V at *
  clear W
  go_wp2_with fail
  refine (rdnum s (0, false) 1 b 1 rfl hs HG.out.le (by omega) (by omega) _ HG.out.rd).mono ?_
  intro e V3 ht
  have G0 := HG.out.step ht
  obtain ⟨rfl, ht⟩ := ht
  clear ht HG
  have d := G0.msg.cell 5 (.int .i64 0) rfl
  have fd := G0.msg.frozen 5
  have HG := Lib.hid (show R 43 w (V3.setCell ⟨w.heap.size + 1, 5, none⟩ (.int .i64 (rdV s (0, false) 1))) b (w.heap.size + 1) s M.zero.cells (M.cells ({ M.zero with kind := 13, ae := (rdV s (0, false) 1) } : M)) (nx s 1 (0, false)) from G0.set rfl)
  clear G0
  go_upto_region 3 with fail
  clear d fd
  generalize V3.setCell ⟨w.heap.size + 1, 5, none⟩ (.int .i64 (rdV s (0, false) 1)) = W3 at *
  go_wp2_with fail
  refine (rdnum s (nx s 1 (0, false)) 1 b 1 rfl hs HG.out.le (by omega) (by omega) _ HG.out.rd).mono ?_
  intro e V4 ht
  have G0 := HG.out.step ht
  obtain ⟨rfl, ht⟩ := ht
  clear ht HG
  have d := G0.msg.cell 7 (.int .i64 0) rfl
  have fd := G0.msg.frozen 7
  have HG := Lib.hid (show R 43 w (V4.setCell ⟨w.heap.size + 1, 7, none⟩ (.int .i64 (rdV s (nx s 1 (0, false)) 1))) b (w.heap.size + 1) s M.zero.cells (M.cells ({ M.zero with kind := 13, ae := (rdV s (0, false) 1), plen := (rdV s (nx s 1 (0, false)) 1) } : M)) (nx s 1 (nx s 1 (0, false))) from G0.set rfl)
  clear G0
  go_upto_region 4 with fail
  clear d fd
  generalize V4.setCell ⟨w.heap.size + 1, 7, none⟩ (.int .i64 (rdV s (nx s 1 (0, false)) 1)) = W4 at *
  go_wp2_with fail
  refine (rdnum s (nx s 1 (nx s 1 (0, false))) 2 b 2 rfl hs HG.out.le (by omega) (by omega) _ HG.out.rd).mono ?_
  intro e V5 ht
  have G0 := HG.out.step ht
  obtain ⟨rfl, ht⟩ := ht
  clear ht HG
  have d := G0.msg.cell 12 (.int .i64 0) rfl
  have fd := G0.msg.frozen 12
  have HG := Lib.hid (show R 43 w (V5.setCell ⟨w.heap.size + 1, 12, none⟩ (.int .i64 (rdV s (nx s 1 (nx s 1 (0, false))) 2))) b (w.heap.size + 1) s M.zero.cells (M.cells ({ M.zero with kind := 13, ae := (rdV s (0, false) 1), plen := (rdV s (nx s 1 (0, false)) 1), seq := (rdV s (nx s 1 (nx s 1 (0, false))) 2) } : M)) (nx s 2 (nx s 1 (nx s 1 (0, false)))) from G0.set rfl)
  clear G0
  go_upto_region 5 with fail
  clear d fd
  generalize V5.setCell ⟨w.heap.size + 1, 12, none⟩ (.int .i64 (rdV s (nx s 1 (nx s 1 (0, false))) 2)) = W5 at *
  go_wp2_with fail
  refine (rdnum s (nx s 2 (nx s 1 (nx s 1 (0, false)))) 1 b 1 rfl hs HG.out.le (by omega) (by omega) _ HG.out.rd).mono ?_
  intro e V6 ht
  have G0 := HG.out.step ht
  obtain ⟨rfl, ht⟩ := ht
  clear ht HG
  have d := G0.msg.cell 16 (.int .i64 0) rfl
  have fd := G0.msg.frozen 16
  have HG := Lib.hid (show R 43 w (V6.setCell ⟨w.heap.size + 1, 16, none⟩ (.int .i64 (rdV s (nx s 2 (nx s 1 (nx s 1 (0, false)))) 1))) b (w.heap.size + 1) s M.zero.cells (M.cells ({ M.zero with kind := 13, ae := (rdV s (0, false) 1), plen := (rdV s (nx s 1 (0, false)) 1), seq := (rdV s (nx s 1 (nx s 1 (0, false))) 2), hops := (rdV s (nx s 2 (nx s 1 (nx s 1 (0, false)))) 1) } : M)) (nx s 1 (nx s 2 (nx s 1 (nx s 1 (0, false))))) from G0.set rfl)
  clear G0
  go_upto_region 6 with fail
  clear d fd
  generalize V6.setCell ⟨w.heap.size + 1, 16, none⟩ (.int .i64 (rdV s (nx s 2 (nx s 1 (nx s 1 (0, false)))) 1)) = W6 at *
  go_wp2_with fail
  refine (rdtext s (nx s 1 (nx s 2 (nx s 1 (nx s 1 (0, false))))) 1 b 1 rfl hs HG.out.le _ HG.out.rd).mono ?_
  intro e V7 ht
  have G0 := HG.out.step ht
  obtain ⟨rfl, ht⟩ := ht
  clear ht HG
  have HG := Lib.hid G0
  clear G0
  go_wp2_with fail
  refine (rdtext s (nx s 1 (nx s 1 (nx s 2 (nx s 1 (nx s 1 (0, false)))))) 8 b 8 rfl hs HG.out.le _ HG.out.rd).mono ?_
  intro e V8 ht
  have G0 := HG.out.step ht
  obtain ⟨rfl, ht⟩ := ht
  clear ht HG
  have d := G0.msg.cell 11 (.string ByteArray.empty) rfl
  have fd := G0.msg.frozen 11
  have HG := Lib.hid (show R 43 w (V8.setCell ⟨w.heap.size + 1, 11, none⟩ (.string (rdT s (nx s 1 (nx s 1 (nx s 2 (nx s 1 (nx s 1 (0, false)))))) 8))) b (w.heap.size + 1) s M.zero.cells (M.cells ({ M.zero with kind := 13, ae := (rdV s (0, false) 1), plen := (rdV s (nx s 1 (0, false)) 1), seq := (rdV s (nx s 1 (nx s 1 (0, false))) 2), hops := (rdV s (nx s 2 (nx s 1 (nx s 1 (0, false)))) 1), id := (rdT s (nx s 1 (nx s 1 (nx s 2 (nx s 1 (nx s 1 (0, false)))))) 8) } : M)) (nx s 8 (nx s 1 (nx s 1 (nx s 2 (nx s 1 (nx s 1 (0, false))))))) from G0.set rfl)
  clear G0
  go_upto_region 8 with fail
  clear d fd
  generalize V8.setCell ⟨w.heap.size + 1, 11, none⟩ (.string (rdT s (nx s 1 (nx s 1 (nx s 2 (nx s 1 (nx s 1 (0, false)))))) 8)) = W8 at *
  have HE := Lib.hid (HG.out.ends (M.cells ({ M.zero with kind := 13, ae := (rdV s (0, false) 1), plen := (rdV s (nx s 1 (0, false)) 1), seq := (rdV s (nx s 1 (nx s 1 (0, false))) 2), hops := (rdV s (nx s 2 (nx s 1 (nx s 1 (0, false)))) 1), id := (rdT s (nx s 1 (nx s 1 (nx s 2 (nx s 1 (nx s 1 (0, false)))))) 8) } : M)))
  go_wp2_with (first | (refine wpList_loadM (b := w.heap.size + 1) (m := ({ M.zero with kind := 13, ae := (rdV s (0, false) 1), plen := (rdV s (nx s 1 (0, false)) 1), seq := (rdV s (nx s 1 (nx s 1 (0, false))) 2), hops := (rdV s (nx s 2 (nx s 1 (nx s 1 (0, false)))) 1), id := (rdT s (nx s 1 (nx s 1 (nx s 2 (nx s 1 (nx s 1 (0, false)))))) 8) } : M)) rfl _ rfl rfl HG.out.msg ?_) | (refine wpList_storeM (b := w.heap.size) (m := M.zero) (m' := ({ M.zero with kind := 13, ae := (rdV s (0, false) 1), plen := (rdV s (nx s 1 (0, false)) 1), seq := (rdV s (nx s 1 (nx s 1 (0, false))) 2), hops := (rdV s (nx s 2 (nx s 1 (nx s 1 (0, false)))) 1), id := (rdT s (nx s 1 (nx s 1 (nx s 2 (nx s 1 (nx s 1 (0, false)))))) 8) } : M)) rfl _ _ rfl rfl rfl HG.out.res ?_))
  exact bodyPost_ret (v := .agg (M.cells ({ M.zero with kind := 13, ae := (rdV s (0, false) 1), plen := (rdV s (nx s 1 (0, false)) 1), seq := (rdV s (nx s 1 (nx s 1 (0, false))) 2), hops := (rdV s (nx s 2 (nx s 1 (nx s 1 (0, false)))) 1), id := (rdT s (nx s 1 (nx s 1 (nx s 2 (nx s 1 (nx s 1 (0, false)))))) 8) } : M))) (results_one rfl _ _ w.heap.size _ rfl shM HE.out.1 rfl) rfl ⟨rfl, HE.out.2.1, HE.out.2.2⟩
/-- What update takes. -/
def R8 (s : ByteArray) : Up := { Up.zero with ae := (rdV s (0, false) 1), flags := (rdV s (nx s 1 (0, false)) 1), plen := (rdV s (nx s 1 (nx s 1 (0, false))) 1), om := (rdV s (nx s 1 (nx s 1 (nx s 1 (0, false)))) 1), iv := (rdV s (nx s 1 (nx s 1 (nx s 1 (nx s 1 (0, false))))) 2), seq := (rdV s (nx s 2 (nx s 1 (nx s 1 (nx s 1 (nx s 1 (0, false)))))) 2), metric := (rdV s (nx s 2 (nx s 2 (nx s 1 (nx s 1 (nx s 1 (nx s 1 (0, false))))))) 2) }
set_option maxHeartbeats 6400000 in
theorem update_any (s : ByteArray) (b : Nat) (hs : s.size ≤ maxLen) (w : World) (hb : Bk 85 w b (cu s (0, false))) :
    Calls Tryz.prog 104 #[.pointer (some ⟨b, 0, none⟩)] w (Took (.agg (R8 s).cells) s (nx s 2 (nx s 2 (nx s 2 (nx s 1 (nx s 1 (nx s 1 (nx s 1 (0, false)))))))) b w) := by
  show Calls _ _ _ _ (Took (.agg (Up.cells ({ Up.zero with ae := (rdV s (0, false) 1), flags := (rdV s (nx s 1 (0, false)) 1), plen := (rdV s (nx s 1 (nx s 1 (0, false))) 1), om := (rdV s (nx s 1 (nx s 1 (nx s 1 (0, false)))) 1), iv := (rdV s (nx s 1 (nx s 1 (nx s 1 (nx s 1 (0, false))))) 2), seq := (rdV s (nx s 2 (nx s 1 (nx s 1 (nx s 1 (nx s 1 (0, false)))))) 2), metric := (rdV s (nx s 2 (nx s 2 (nx s 1 (nx s 1 (nx s 1 (nx s 1 (0, false))))))) 2) } : Up))) s (nx s 2 (nx s 2 (nx s 2 (nx s 1 (nx s 1 (nx s 1 (nx s 1 (0, false)))))))) b w)
  go_enter Tryz.func104, Tryz.ntmps104
  go_upto_region 2 with fail
  change Code.wp _ _ _ _ ((w.alloc (.cells Up.zero.cells 119)).alloc (.cells Up.zero.cells 119))
  have hz := alloc_size w (.cells Up.zero.cells 119)
  have HG := Lib.hid (R.plain (T := 119) w s Up.zero.cells hb (Nat.zero_le _))
  clear hb
  generalize (w.alloc (.cells Up.zero.cells 119)).alloc (.cells Up.zero.cells 119) = V at *
  try rw [hz]
  clear hz
  go_wp2_with fail
  refine (rdnum s (0, false) 1 b 1 rfl hs HG.out.le (by omega) (by omega) _ HG.out.rd).mono ?_
  intro e V9 ht
  have G0 := HG.out.step ht
  obtain ⟨rfl, ht⟩ := ht
  clear ht HG
  have d := G0.msg.cell 0 (.int .i64 0) rfl
  have fd := G0.msg.frozen 0
  have HG := Lib.hid (show R 119 w (V9.setCell ⟨w.heap.size + 1, 0, none⟩ (.int .i64 (rdV s (0, false) 1))) b (w.heap.size + 1) s Up.zero.cells (Up.cells ({ Up.zero with ae := (rdV s (0, false) 1) } : Up)) (nx s 1 (0, false)) from G0.set rfl)
  clear G0
  go_upto_region 3 with fail
  clear d fd
  generalize V9.setCell ⟨w.heap.size + 1, 0, none⟩ (.int .i64 (rdV s (0, false) 1)) = W9 at *
  go_wp2_with fail
  refine (rdnum s (nx s 1 (0, false)) 1 b 1 rfl hs HG.out.le (by omega) (by omega) _ HG.out.rd).mono ?_
  intro e V10 ht
  have G0 := HG.out.step ht
  obtain ⟨rfl, ht⟩ := ht
  clear ht HG
  have d := G0.msg.cell 1 (.int .i64 0) rfl
  have fd := G0.msg.frozen 1
  have HG := Lib.hid (show R 119 w (V10.setCell ⟨w.heap.size + 1, 1, none⟩ (.int .i64 (rdV s (nx s 1 (0, false)) 1))) b (w.heap.size + 1) s Up.zero.cells (Up.cells ({ Up.zero with ae := (rdV s (0, false) 1), flags := (rdV s (nx s 1 (0, false)) 1) } : Up)) (nx s 1 (nx s 1 (0, false))) from G0.set rfl)
  clear G0
  go_upto_region 4 with fail
  clear d fd
  generalize V10.setCell ⟨w.heap.size + 1, 1, none⟩ (.int .i64 (rdV s (nx s 1 (0, false)) 1)) = W10 at *
  go_wp2_with fail
  refine (rdnum s (nx s 1 (nx s 1 (0, false))) 1 b 1 rfl hs HG.out.le (by omega) (by omega) _ HG.out.rd).mono ?_
  intro e V11 ht
  have G0 := HG.out.step ht
  obtain ⟨rfl, ht⟩ := ht
  clear ht HG
  have d := G0.msg.cell 2 (.int .i64 0) rfl
  have fd := G0.msg.frozen 2
  have HG := Lib.hid (show R 119 w (V11.setCell ⟨w.heap.size + 1, 2, none⟩ (.int .i64 (rdV s (nx s 1 (nx s 1 (0, false))) 1))) b (w.heap.size + 1) s Up.zero.cells (Up.cells ({ Up.zero with ae := (rdV s (0, false) 1), flags := (rdV s (nx s 1 (0, false)) 1), plen := (rdV s (nx s 1 (nx s 1 (0, false))) 1) } : Up)) (nx s 1 (nx s 1 (nx s 1 (0, false)))) from G0.set rfl)
  clear G0
  go_upto_region 5 with fail
  clear d fd
  generalize V11.setCell ⟨w.heap.size + 1, 2, none⟩ (.int .i64 (rdV s (nx s 1 (nx s 1 (0, false))) 1)) = W11 at *
  go_wp2_with fail
  refine (rdnum s (nx s 1 (nx s 1 (nx s 1 (0, false)))) 1 b 1 rfl hs HG.out.le (by omega) (by omega) _ HG.out.rd).mono ?_
  intro e V12 ht
  have G0 := HG.out.step ht
  obtain ⟨rfl, ht⟩ := ht
  clear ht HG
  have d := G0.msg.cell 3 (.int .i64 0) rfl
  have fd := G0.msg.frozen 3
  have HG := Lib.hid (show R 119 w (V12.setCell ⟨w.heap.size + 1, 3, none⟩ (.int .i64 (rdV s (nx s 1 (nx s 1 (nx s 1 (0, false)))) 1))) b (w.heap.size + 1) s Up.zero.cells (Up.cells ({ Up.zero with ae := (rdV s (0, false) 1), flags := (rdV s (nx s 1 (0, false)) 1), plen := (rdV s (nx s 1 (nx s 1 (0, false))) 1), om := (rdV s (nx s 1 (nx s 1 (nx s 1 (0, false)))) 1) } : Up)) (nx s 1 (nx s 1 (nx s 1 (nx s 1 (0, false))))) from G0.set rfl)
  clear G0
  go_upto_region 6 with fail
  clear d fd
  generalize V12.setCell ⟨w.heap.size + 1, 3, none⟩ (.int .i64 (rdV s (nx s 1 (nx s 1 (nx s 1 (0, false)))) 1)) = W12 at *
  go_wp2_with fail
  refine (rdnum s (nx s 1 (nx s 1 (nx s 1 (nx s 1 (0, false))))) 2 b 2 rfl hs HG.out.le (by omega) (by omega) _ HG.out.rd).mono ?_
  intro e V13 ht
  have G0 := HG.out.step ht
  obtain ⟨rfl, ht⟩ := ht
  clear ht HG
  have d := G0.msg.cell 4 (.int .i64 0) rfl
  have fd := G0.msg.frozen 4
  have HG := Lib.hid (show R 119 w (V13.setCell ⟨w.heap.size + 1, 4, none⟩ (.int .i64 (rdV s (nx s 1 (nx s 1 (nx s 1 (nx s 1 (0, false))))) 2))) b (w.heap.size + 1) s Up.zero.cells (Up.cells ({ Up.zero with ae := (rdV s (0, false) 1), flags := (rdV s (nx s 1 (0, false)) 1), plen := (rdV s (nx s 1 (nx s 1 (0, false))) 1), om := (rdV s (nx s 1 (nx s 1 (nx s 1 (0, false)))) 1), iv := (rdV s (nx s 1 (nx s 1 (nx s 1 (nx s 1 (0, false))))) 2) } : Up)) (nx s 2 (nx s 1 (nx s 1 (nx s 1 (nx s 1 (0, false)))))) from G0.set rfl)
  clear G0
  go_upto_region 7 with fail
  clear d fd
  generalize V13.setCell ⟨w.heap.size + 1, 4, none⟩ (.int .i64 (rdV s (nx s 1 (nx s 1 (nx s 1 (nx s 1 (0, false))))) 2)) = W13 at *
  go_wp2_with fail
  refine (rdnum s (nx s 2 (nx s 1 (nx s 1 (nx s 1 (nx s 1 (0, false)))))) 2 b 2 rfl hs HG.out.le (by omega) (by omega) _ HG.out.rd).mono ?_
  intro e V14 ht
  have G0 := HG.out.step ht
  obtain ⟨rfl, ht⟩ := ht
  clear ht HG
  have d := G0.msg.cell 5 (.int .i64 0) rfl
  have fd := G0.msg.frozen 5
  have HG := Lib.hid (show R 119 w (V14.setCell ⟨w.heap.size + 1, 5, none⟩ (.int .i64 (rdV s (nx s 2 (nx s 1 (nx s 1 (nx s 1 (nx s 1 (0, false)))))) 2))) b (w.heap.size + 1) s Up.zero.cells (Up.cells ({ Up.zero with ae := (rdV s (0, false) 1), flags := (rdV s (nx s 1 (0, false)) 1), plen := (rdV s (nx s 1 (nx s 1 (0, false))) 1), om := (rdV s (nx s 1 (nx s 1 (nx s 1 (0, false)))) 1), iv := (rdV s (nx s 1 (nx s 1 (nx s 1 (nx s 1 (0, false))))) 2), seq := (rdV s (nx s 2 (nx s 1 (nx s 1 (nx s 1 (nx s 1 (0, false)))))) 2) } : Up)) (nx s 2 (nx s 2 (nx s 1 (nx s 1 (nx s 1 (nx s 1 (0, false))))))) from G0.set rfl)
  clear G0
  go_upto_region 8 with fail
  clear d fd
  generalize V14.setCell ⟨w.heap.size + 1, 5, none⟩ (.int .i64 (rdV s (nx s 2 (nx s 1 (nx s 1 (nx s 1 (nx s 1 (0, false)))))) 2)) = W14 at *
  go_wp2_with fail
  refine (rdnum s (nx s 2 (nx s 2 (nx s 1 (nx s 1 (nx s 1 (nx s 1 (0, false))))))) 2 b 2 rfl hs HG.out.le (by omega) (by omega) _ HG.out.rd).mono ?_
  intro e V15 ht
  have G0 := HG.out.step ht
  obtain ⟨rfl, ht⟩ := ht
  clear ht HG
  have d := G0.msg.cell 6 (.int .i64 0) rfl
  have fd := G0.msg.frozen 6
  have HG := Lib.hid (show R 119 w (V15.setCell ⟨w.heap.size + 1, 6, none⟩ (.int .i64 (rdV s (nx s 2 (nx s 2 (nx s 1 (nx s 1 (nx s 1 (nx s 1 (0, false))))))) 2))) b (w.heap.size + 1) s Up.zero.cells (Up.cells ({ Up.zero with ae := (rdV s (0, false) 1), flags := (rdV s (nx s 1 (0, false)) 1), plen := (rdV s (nx s 1 (nx s 1 (0, false))) 1), om := (rdV s (nx s 1 (nx s 1 (nx s 1 (0, false)))) 1), iv := (rdV s (nx s 1 (nx s 1 (nx s 1 (nx s 1 (0, false))))) 2), seq := (rdV s (nx s 2 (nx s 1 (nx s 1 (nx s 1 (nx s 1 (0, false)))))) 2), metric := (rdV s (nx s 2 (nx s 2 (nx s 1 (nx s 1 (nx s 1 (nx s 1 (0, false))))))) 2) } : Up)) (nx s 2 (nx s 2 (nx s 2 (nx s 1 (nx s 1 (nx s 1 (nx s 1 (0, false)))))))) from G0.set rfl)
  clear G0
  go_upto_region 9 with fail
  clear d fd
  generalize V15.setCell ⟨w.heap.size + 1, 6, none⟩ (.int .i64 (rdV s (nx s 2 (nx s 2 (nx s 1 (nx s 1 (nx s 1 (nx s 1 (0, false))))))) 2)) = W15 at *
  have HE := Lib.hid (HG.out.ends (Up.cells ({ Up.zero with ae := (rdV s (0, false) 1), flags := (rdV s (nx s 1 (0, false)) 1), plen := (rdV s (nx s 1 (nx s 1 (0, false))) 1), om := (rdV s (nx s 1 (nx s 1 (nx s 1 (0, false)))) 1), iv := (rdV s (nx s 1 (nx s 1 (nx s 1 (nx s 1 (0, false))))) 2), seq := (rdV s (nx s 2 (nx s 1 (nx s 1 (nx s 1 (nx s 1 (0, false)))))) 2), metric := (rdV s (nx s 2 (nx s 2 (nx s 1 (nx s 1 (nx s 1 (nx s 1 (0, false))))))) 2) } : Up)))
  go_wp2_with (first | (refine wpList_loadU (b := w.heap.size + 1) (m := ({ Up.zero with ae := (rdV s (0, false) 1), flags := (rdV s (nx s 1 (0, false)) 1), plen := (rdV s (nx s 1 (nx s 1 (0, false))) 1), om := (rdV s (nx s 1 (nx s 1 (nx s 1 (0, false)))) 1), iv := (rdV s (nx s 1 (nx s 1 (nx s 1 (nx s 1 (0, false))))) 2), seq := (rdV s (nx s 2 (nx s 1 (nx s 1 (nx s 1 (nx s 1 (0, false)))))) 2), metric := (rdV s (nx s 2 (nx s 2 (nx s 1 (nx s 1 (nx s 1 (nx s 1 (0, false))))))) 2) } : Up)) rfl _ rfl rfl HG.out.msg ?_) | (refine wpList_storeU (b := w.heap.size) (m := Up.zero) (m' := ({ Up.zero with ae := (rdV s (0, false) 1), flags := (rdV s (nx s 1 (0, false)) 1), plen := (rdV s (nx s 1 (nx s 1 (0, false))) 1), om := (rdV s (nx s 1 (nx s 1 (nx s 1 (0, false)))) 1), iv := (rdV s (nx s 1 (nx s 1 (nx s 1 (nx s 1 (0, false))))) 2), seq := (rdV s (nx s 2 (nx s 1 (nx s 1 (nx s 1 (nx s 1 (0, false)))))) 2), metric := (rdV s (nx s 2 (nx s 2 (nx s 1 (nx s 1 (nx s 1 (nx s 1 (0, false))))))) 2) } : Up)) rfl _ _ rfl rfl rfl HG.out.res ?_))
  exact bodyPost_ret (v := .agg (Up.cells ({ Up.zero with ae := (rdV s (0, false) 1), flags := (rdV s (nx s 1 (0, false)) 1), plen := (rdV s (nx s 1 (nx s 1 (0, false))) 1), om := (rdV s (nx s 1 (nx s 1 (nx s 1 (0, false)))) 1), iv := (rdV s (nx s 1 (nx s 1 (nx s 1 (nx s 1 (0, false))))) 2), seq := (rdV s (nx s 2 (nx s 1 (nx s 1 (nx s 1 (nx s 1 (0, false)))))) 2), metric := (rdV s (nx s 2 (nx s 2 (nx s 1 (nx s 1 (nx s 1 (nx s 1 (0, false))))))) 2) } : Up))) (results_one rfl _ _ w.heap.size _ rfl shU HE.out.1 rfl) rfl ⟨rfl, HE.out.2.1, HE.out.2.2⟩
/-- What request takes. -/
def RQ (t : Int) (s : ByteArray) : M := if t = 10 then R10 s else R9 s
def pQ (t : Int) (s : ByteArray) : Nat × Bool := if t = 10 then (nx s 8 (nx s 1 (nx s 1 (nx s 2 (nx s 1 (nx s 1 (0, false))))))) else (nx s 1 (nx s 1 (0, false)))
def TookB (m : M) (c : Bool) (s : ByteArray) (p : Nat × Bool) (b : Nat) (w : World) (e : Ending) (w' : World) : Prop := e = .returned (.tuple #[.agg m.cells, .bool c]) ∧ Bk 85 w' b (cu s p) ∧ Bel w.heap.size b w w'
theorem took_row {v : Value} {s : ByteArray} {p : Nat × Bool} {b : Nat} {w W w1 : World} {e : Ending} {X : M} {c : Bool} (hk : Took v s p b W e w1) (hw : Below w.heap.size w W) (hz : W.heap.size = w.heap.size + 1) (hb : b < w.heap.size) :
    TookB X c s p b w (.returned (.tuple #[.agg X.cells, .bool c])) (w1.setRow w.heap.size X.cells) :=
  ⟨rfl, hk.2.1.row (by omega) _, ((Bel.of hw).trans (hk.2.2.mono (by omega))).row (Nat.le_refl _) _⟩
set_option maxHeartbeats 3200000 in
theorem request_any (t : Int) (s : ByteArray) (b : Nat) (h : t = 9 ∨ t = 10) (hs : s.size ≤ maxLen) (w : World) (hb : Bk 85 w b (cu s (0, false))) :
    Calls Tryz.prog 43 #[.pointer (some ⟨b, 0, none⟩), .int .i64 t] w (TookB (RQ t s) true s (pQ t s) b w) := by
  rcases h with rfl | rfl
  · rw [show RQ 9 s = R9 s from rfl, show pQ 9 s = (nx s 1 (nx s 1 (0, false))) from rfl]
    go_enter Tryz.func43, Tryz.ntmps43
    go_upto_region 1 with fail
    change Code.wp _ _ _ _ (w.alloc (.cells M.zero.cells 43))
    have hz := alloc_size w (.cells M.zero.cells 43)
    have HB := Lib.hid (balloc (Below.refl _ w) (.cells M.zero.cells 43))
    have HX := Lib.hid (Bx.new w M.zero)
    have HR := Lib.hid (hb.old (.cells M.zero.cells 43))
    have hlt := hb.lt
    clear hb
    generalize w.alloc (.cells M.zero.cells 43) = W at *
    go_wp2_with fail
    refine (route_any s b hs _ HR.out).mono ?_
    intro e w1 hk
    have X1 := Lib.hid (hk.2.2.bx (by omega) HX.out)
    have HT := Lib.hid (took_row (X := R9 s) (c := true) hk HB.out hz hlt)
    obtain ⟨rfl, hk⟩ := hk
    clear hk HX HR HB
    have HE := Lib.hid (show TookB (R9 s) true s (nx s 1 (nx s 1 (0, false))) b w _ _ from HT.out)
    clear HT
    generalize R9 s = x at *
    go_wp2_with (first | (refine wpList_storeM (b := w.heap.size) (m := M.zero) (m' := x) rfl _ _ rfl rfl rfl X1.out ?_))
    exact bodyPost_ret (v := .tuple #[.agg (M.cells x), .bool true]) (results_pair rfl _ _ w.heap.size _ rfl (loadVarK shM (X1.out.put (m' := x)) rfl) _ rfl) rfl HE.out
  · rw [show RQ 10 s = R10 s from rfl, show pQ 10 s = (nx s 8 (nx s 1 (nx s 1 (nx s 2 (nx s 1 (nx s 1 (0, false))))))) from rfl]
    go_enter Tryz.func43, Tryz.ntmps43
    go_upto_region 1 with fail
    change Code.wp _ _ _ _ (w.alloc (.cells M.zero.cells 43))
    have hz := alloc_size w (.cells M.zero.cells 43)
    have HB := Lib.hid (balloc (Below.refl _ w) (.cells M.zero.cells 43))
    have HX := Lib.hid (Bx.new w M.zero)
    have HR := Lib.hid (hb.old (.cells M.zero.cells 43))
    have hlt := hb.lt
    clear hb
    generalize w.alloc (.cells M.zero.cells 43) = W at *
    go_wp2_with fail
    refine (seqno_any s b hs _ HR.out).mono ?_
    intro e w1 hk
    have X1 := Lib.hid (hk.2.2.bx (by omega) HX.out)
    have HT := Lib.hid (took_row (X := R10 s) (c := true) hk HB.out hz hlt)
    obtain ⟨rfl, hk⟩ := hk
    clear hk HX HR HB
    have HE := Lib.hid (show TookB (R10 s) true s (nx s 8 (nx s 1 (nx s 1 (nx s 2 (nx s 1 (nx s 1 (0, false))))))) b w _ _ from HT.out)
    clear HT
    generalize R10 s = x at *
    go_wp2_with (first | (refine wpList_storeM (b := w.heap.size) (m := M.zero) (m' := x) rfl _ _ rfl rfl rfl X1.out ?_))
    exact bodyPost_ret (v := .tuple #[.agg (M.cells x), .bool true]) (results_pair rfl _ _ w.heap.size _ rfl (loadVarK shM (X1.out.put (m' := x)) rfl) _ rfl) rfl HE.out
end Go.Proofs.YtpkmpinbpfblfaaGreatDoor.J4
namespace Go.Proofs.YtpkmpinbpfblfaaGreatDoor.F3
open Go.ChangeShapes Go.WideShapes Go.ChangeAt Go.RowKit
open Go.Proofs.YtpkmpinbpfblfaaGreatDoor.F1
open Go.Proofs.YtpkmpinbpfblfaaGreatDoor.F2
open Go.Proofs.YtpkmpinbpfblfaaGreatDoor.Nu
open Go.Proofs.YtpkmpinbpfblfaaGreatDoor.Cur (numL num_yes num_no text_yes text_no new_any left_ok hasB)
open Go.Proofs.YtpkmpinbpfblfaaGreatDoor.Bk (Bk Sh shC cur cur_one loadVarK wpList_builtK wpList_loadK wpList_storeK run_loadK below_setRow alloc_size)
open Go.Proofs.YtpkmpinbpfblfaaGreatDoor.Hs
open Go.Proofs.YtpkmpinbpfblfaaGreatDoor.Hx (conv8 ex_built H.storeRow)
open Go.Proofs.YtpkmpinbpfblfaaGreatDoor.Tl (cellsT oneT shT Lst TRow bs_one app_one cells_new)
set_option linter.unusedVariables false
set_option maxRecDepth 100000
set_option maxRecDepth 100000

theorem results_tc {P : Program} {fn : Func} {p q : Nat} {t1 t2 : TypeId} (h : fn.results = #[.cell p t1, .cell q t2]) (tmps : Array Value) (w : World) (g k : Nat) (u v : Value)
    (hp : tmps.getD p undef = .pointer (some ⟨g, 0, none⟩)) (hl : (loadVar t1 ⟨g, 0, none⟩).run P w = .ok u w) (hq : tmps.getD q undef = .pointer (some ⟨k, 0, none⟩)) (hk : (loadVar t2 ⟨k, 0, none⟩).run P w = .ok v w) :
    (results fn tmps).run P w = .ok (.tuple #[u, v]) w := by
  have hp' : tmps[p]?.getD undef = .pointer (some ⟨g, 0, none⟩) := by simpa using hp
  have hq' : tmps[q]?.getD undef = .pointer (some ⟨k, 0, none⟩) := by simpa using hq
  simp [results, h, hp', hq', asAddr, hl, hk]
/-- A TLV without anything. -/
def zT : T := (0, (⟨#[]⟩, 0))
/-- What stands in take: the cursor, the answer's TLV, the answer's cursor. -/
structure G (w0 w : World) (c : Array Value) : Prop where
  cur : Bk 61 w w0.heap.size c
  tl : Bk 31 w (w0.heap.size + 1) (cellsT zT)
  rc : Bk 61 w (w0.heap.size + 2) noC
  bel : Below w0.heap.size w0 w
theorem G.start (w : World) (c : Array Value) : G w (((w.alloc (.cells c 61)).alloc (.cells (cellsT zT) 31)).alloc (.cells noC 61)) c := by
  have h1 := Bk.Bk.new 31 (w.alloc (.cells c 61)) (cellsT zT)
  have h2 := Bk.Bk.new 61 ((w.alloc (.cells c 61)).alloc (.cells (cellsT zT) 31)) noC
  rw [alloc_size] at h1 h2
  rw [alloc_size] at h2
  exact ⟨((Bk.Bk.new 61 w c).old _).old _, h1.old _, h2, balloc (balloc (balloc (Below.refl _ w) _) _) _⟩
theorem G.call {w0 w w' : World} {c : Array Value} (g : G w0 w c) (hb : Below w.heap.size w w') : G w0 w' c := ⟨g.cur.below hb, g.tl.below hb, g.rc.below hb, g.bel.trans (hb.mono g.bel.size)⟩
theorem G.put {w0 w : World} {c : Array Value} (g : G w0 w c) (c' : Array Value) : G w0 (w.setRow w0.heap.size c') c' :=
  ⟨g.cur.put _, g.tl.row (by omega) _, g.rc.row (by omega) _, below_setRow g.bel (Nat.le_refl _) _⟩
/-- What take answers: a TLV and a cursor. -/
def TakeIs (t : T) (c : Array Value) (w : World) (e : Ending) (w' : World) : Prop := e = .returned (.tuple #[.agg (cellsT t), .agg c]) ∧ Below w.heap.size w w'
theorem G.ends {w0 w w' : World} {c c' : Array Value} {t : T} (g : G w0 w c) : Below w0.heap.size w0 ((w.drew.setRow (w0.heap.size + 1) (cellsT t)).setRow (w0.heap.size + 2) c') :=
  below_setRow (below_setRow g.bel.drew (by omega) _) (by omega) _
set_option maxHeartbeats 3200000 in
theorem take_zero (s : ByteArray) (p q : Nat) (y : Bool) (w : World) (h : ∀ w, Calls Tryz.prog 58 #[.agg (cur s p s.size false), .int .i64 1] w fun e w' => e = .returned (.tuple #[.int .i64 0, .agg (cur s q s.size y)]) ∧ Below w.heap.size w w') :
    Calls Tryz.prog 38 #[.agg (cur s p s.size false)] w (TakeIs zT (cur s q s.size y) w) := by
  have H1 := Lib.hid h
  clear h
  go_enter Tryz.func38, Tryz.ntmps38
  go_upto_region 1 with fail
  change Code.wp _ _ _ _ (((w.alloc (.cells (cur s p s.size false) 61)).alloc (.cells (cellsT zT) 31)).alloc (.cells noC 61))
  have HG := Lib.hid (G.start w (cur s p s.size false))
  generalize ((w.alloc (.cells (cur s p s.size false) 61)).alloc (.cells (cellsT zT) 31)).alloc (.cells noC 61) = W0 at *
  go_wp2_with (first | (refine wpList_loadK (b := w.heap.size) shC rfl _ rfl rfl HG.out.cur rfl ?_))
  refine (H1.out _).mono ?_
  rintro e w1 ⟨rfl, hb⟩
  have HG := Lib.hid (HG.out.call hb)
  clear hb H1
  go_upto_region 2 with (refine wpList_storeK (b := w.heap.size) shC rfl _ _ rfl rfl rfl HG.out.cur rfl rfl (cur_one s q s.size y) ?_)
  have HG := Lib.hid (HG.out.put (cur s q s.size y))
  generalize w1.setRow w.heap.size (cur s q s.size y) = W3 at *
  go_upto_region 3 with fail
  refine wp_region_held_drew (S := fun W => Bk 61 W w.heap.size (cur s q s.size y)) (by kernel_rfl) HG.out.cur.drew (fun hS => ?_)
  refine H.tk (i := 0) (v := .agg (cellsT zT)) (fun w _ => ex_built rfl (by kernel_rfl)) hS ?_
  try simp only [Act.put, List.setIfInBounds_toArray, List.set_cons_zero, List.set_cons_succ]
  refine H.tk (i := 1) (v := .agg (cur s q s.size y)) (fun W hW => run_loadK shC rfl rfl hW rfl) hS ?_
  try simp only [Act.put, List.setIfInBounds_toArray, List.set_cons_zero, List.set_cons_succ]
  refine H.storeRow (i := 2) (g := w.heap.size + 1) (cells := cellsT zT) (by simp only [List.getElem?_toArray, List.getElem?_cons_succ, List.getElem?_cons_zero]; rfl) (by kernel_rfl) rfl rfl (by kernel_rfl) rfl rfl 31 (cellsT zT) HG.out.tl.drew (by kernel_rfl) rfl (oneT _) (HG.out.cur.drew.row (by omega) _) ?_
  refine H.storeRow (i := 3) (g := w.heap.size + 2) (cells := cur s q s.size y) (by simp only [List.getElem?_toArray, List.getElem?_cons_succ, List.getElem?_cons_zero]; rfl) (by kernel_rfl) rfl rfl (by kernel_rfl) rfl rfl 61 noC (HG.out.rc.drew.row (by omega) _) (by kernel_rfl) rfl (cur_one _ _ _ _) ((HG.out.cur.drew.row (by omega) _).row (by omega) _) ?_
  refine wpAnyH_done (by kernel_rfl) ?_ _
  go_wp2_with fail
  exact bodyPost_ret (v := .tuple #[.agg (cellsT zT), .agg (cur s q s.size y)]) (results_tc (t1 := 31) (t2 := 61) rfl _ _ (w.heap.size + 1) (w.heap.size + 2) (.agg (cellsT zT)) (.agg (cur s q s.size y)) rfl (loadVarK shT ((HG.out.tl.drew.put _).row (by omega) _) rfl) rfl (loadVarK shC ((HG.out.rc.drew.row (by omega) _).put _) rfl)) rfl ⟨rfl, HG.out.ends (w' := w)⟩
set_option maxHeartbeats 6400000 in
theorem take_more (s d : ByteArray) (p q1 q2 q3 : Nat) (y1 y2 y3 : Bool) (t n : Int) (w : World) (ht : ¬ t = 0)
    (h1 : ∀ w, Calls Tryz.prog 58 #[.agg (cur s p s.size false), .int .i64 1] w fun e w' => e = .returned (.tuple #[.int .i64 t, .agg (cur s q1 s.size y1)]) ∧ Below w.heap.size w w')
    (h2 : ∀ w, Calls Tryz.prog 58 #[.agg (cur s q1 s.size y1), .int .i64 1] w fun e w' => e = .returned (.tuple #[.int .i64 n, .agg (cur s q2 s.size y2)]) ∧ Below w.heap.size w w')
    (h3 : ∀ w, Calls Tryz.prog 35 #[.agg (cur s q2 s.size y2), .int .i64 n] w fun e w' => e = .returned (.tuple #[.string d, .agg (cur s q3 s.size y3)]) ∧ Below w.heap.size w w') :
    Calls Tryz.prog 38 #[.agg (cur s p s.size false)] w (TakeIs (0, (d, t)) (cur s q3 s.size y3) w) := by
  have H1 := Lib.hid h1
  have H2 := Lib.hid h2
  have H3 := Lib.hid h3
  clear h1 h2 h3
  go_enter Tryz.func38, Tryz.ntmps38
  go_upto_region 1 with fail
  change Code.wp _ _ _ _ (((w.alloc (.cells (cur s p s.size false) 61)).alloc (.cells (cellsT zT) 31)).alloc (.cells noC 61))
  have HG := Lib.hid (G.start w (cur s p s.size false))
  generalize ((w.alloc (.cells (cur s p s.size false) 61)).alloc (.cells (cellsT zT) 31)).alloc (.cells noC 61) = W0 at *
  go_wp2_with (first | (refine wpList_loadK (b := w.heap.size) shC rfl _ rfl rfl HG.out.cur rfl ?_))
  refine (H1.out _).mono ?_
  rintro e w1 ⟨rfl, hb⟩
  have HG := Lib.hid (HG.out.call hb)
  clear hb H1
  go_upto_region 2 with (refine wpList_storeK (b := w.heap.size) shC rfl _ _ rfl rfl rfl HG.out.cur rfl rfl (cur_one s q1 s.size y1) ?_)
  have HG := Lib.hid (HG.out.put (cur s q1 s.size y1))
  generalize w1.setRow w.heap.size (cur s q1 s.size y1) = W2 at *
  go_wp2_with (first | (refine wpList_loadK (b := w.heap.size) shC rfl _ rfl rfl HG.out.cur rfl ?_))
  refine (H2.out _).mono ?_
  rintro e w2 ⟨rfl, hb⟩
  have HG := Lib.hid (HG.out.call hb)
  clear hb H2
  go_upto_region 5 with (refine wpList_storeK (b := w.heap.size) shC rfl _ _ rfl rfl rfl HG.out.cur rfl rfl (cur_one s q2 s.size y2) ?_)
  have HG := Lib.hid (HG.out.put (cur s q2 s.size y2))
  generalize w2.setRow w.heap.size (cur s q2 s.size y2) = W3 at *
  go_wp2_with (first | (refine wpList_loadK (b := w.heap.size) shC rfl _ rfl rfl HG.out.cur rfl ?_))
  refine (H3.out _).mono ?_
  rintro e w3 ⟨rfl, hb⟩
  have HG := Lib.hid (HG.out.call hb)
  clear hb H3
  go_upto_region 6 with (refine wpList_storeK (b := w.heap.size) shC rfl _ _ rfl rfl rfl HG.out.cur rfl rfl (cur_one s q3 s.size y3) ?_)
  have HG := Lib.hid (HG.out.put (cur s q3 s.size y3))
  generalize w3.setRow w.heap.size (cur s q3 s.size y3) = W4 at *
  refine wp_region_held_drew (S := fun W => Bk 61 W w.heap.size (cur s q3 s.size y3)) (by kernel_rfl) HG.out.cur.drew (fun hS => ?_)
  refine H.tk (i := 0) (v := .int .i64 t) (fun _ _ => rfl) hS ?_
  try simp only [Act.put, List.setIfInBounds_toArray, List.set_cons_zero, List.set_cons_succ]
  refine H.tk (i := 1) (v := .string d) (fun _ _ => rfl) hS ?_
  try simp only [Act.put, List.setIfInBounds_toArray, List.set_cons_zero, List.set_cons_succ]
  refine H.tk (i := 2) (v := .agg (cellsT (0, (d, t)))) (fun w _ => ex_built rfl (by kernel_rfl)) hS ?_
  try simp only [Act.put, List.setIfInBounds_toArray, List.set_cons_zero, List.set_cons_succ]
  refine H.tk (i := 3) (v := .agg (cur s q3 s.size y3)) (fun W hW => run_loadK shC rfl rfl hW rfl) hS ?_
  try simp only [Act.put, List.setIfInBounds_toArray, List.set_cons_zero, List.set_cons_succ]
  refine H.storeRow (i := 4) (g := w.heap.size + 1) (cells := cellsT (0, (d, t))) (by simp only [List.getElem?_toArray, List.getElem?_cons_succ, List.getElem?_cons_zero]; rfl) (by kernel_rfl) rfl rfl (by kernel_rfl) rfl rfl 31 (cellsT zT) HG.out.tl.drew (by kernel_rfl) rfl (oneT _) (HG.out.cur.drew.row (by omega) _) ?_
  refine H.storeRow (i := 5) (g := w.heap.size + 2) (cells := cur s q3 s.size y3) (by simp only [List.getElem?_toArray, List.getElem?_cons_succ, List.getElem?_cons_zero]; rfl) (by kernel_rfl) rfl rfl (by kernel_rfl) rfl rfl 61 noC (HG.out.rc.drew.row (by omega) _) (by kernel_rfl) rfl (cur_one _ _ _ _) ((HG.out.cur.drew.row (by omega) _).row (by omega) _) ?_
  refine wpAnyH_done (by kernel_rfl) ?_ _
  go_wp2_with fail
  exact bodyPost_ret (v := .tuple #[.agg (cellsT (0, (d, t))), .agg (cur s q3 s.size y3)]) (results_tc (t1 := 31) (t2 := 61) rfl _ _ (w.heap.size + 1) (w.heap.size + 2) (.agg (cellsT (0, (d, t)))) (.agg (cur s q3 s.size y3)) rfl (loadVarK shT ((HG.out.tl.drew.put _).row (by omega) _) rfl) rfl (loadVarK shC ((HG.out.rc.drew.row (by omega) _).put _) rfl)) rfl ⟨rfl, HG.out.ends (w' := w)⟩
/-- Where a TLV begins: what take answers, if it is all there, and if it isn't. -/
theorem take_any {s : ByteArray} {a r : List UInt8} {p : Nat} (h : s.data.toList = a ++ r) (hp : a.length = p) (hr : r ≠ []) (hs : s.size ≤ 1048576) :
    (∃ x r', cut1 r = some (x, r') ∧ ∀ w, Calls Tryz.prog 38 #[.agg (cur s p s.size false)] w (TakeIs (0, x) (cur s (p + (enc1 x).length : Nat) s.size false) w)) ∨
    (cut1 r = none ∧ ∃ (t : T) (q : Nat), ∀ w, Calls Tryz.prog 38 #[.agg (cur s p s.size false)] w (TakeIs t (cur s q s.size true) w)) := by
  have hm : s.size ≤ maxLen := by unfold maxLen; omega
  obtain ⟨k1, k2, k3⟩ := F1.step h hp hr
  have N1 := fun w => num_is s p hs (by omega) w
  rcases k3 with ⟨b0, r', hc⟩ | ⟨b0, k4, hc⟩ | ⟨n, b0, k4, b1, kn, ⟨k5, hc⟩ | ⟨k5, x, r', hc, x1, x2, x3⟩⟩
  · rw [b0] at N1
    refine .inl ⟨_, r', hc, fun w => ?_⟩
    exact take_zero s p (p + 1) false w N1
  · obtain ⟨v2, q2, y2, l2, j2, n2⟩ := num_any s (p + 1) false 1 hs (by omega) (by omega) (by omega)
    have hy : y2 = true := by
      cases y2 with
      | true => rfl
      | false =>
        obtain ⟨_, _, _⟩ := j2 rfl
        omega
    subst hy
    exact .inr ⟨hc, _, q2, fun w => take_more s ⟨#[]⟩ p (p + 1) q2 q2 false true true (bt s p) v2 w b0 N1 n2 (fun w => text_no s q2 s.size v2 true w hm l2 (Nat.le_refl _) rfl)⟩
  · have N2 := fun w => num_is s (p + 1) hs (by omega) w
    rw [b1] at N2
    exact .inr ⟨hc, _, p + 2, fun w => take_more s ⟨#[]⟩ p (p + 1) (p + 2) (p + 2) false false true (bt s p) n w b0 N1 N2 (fun w => text_no s (p + 2) s.size n false w hm (by omega) (Nat.le_refl _) (by unfold hasB; simp; omega))⟩
  · have N2 := fun w => num_is s (p + 1) hs (by omega) w
    rw [b1] at N2
    have hx : x = (s.extract (p + 2) (p + 2 + n), bt s p) := Prod.ext x2 x1
    have hl : (enc1 x).length = 2 + n := by rw [enc1_len, if_neg (by rw [x1]; exact b0), x3]
    refine .inl ⟨x, r', hc, fun w => ?_⟩
    rw [hl, hx]
    have T3 : ∀ w, Calls Tryz.prog 35 #[.agg (cur s (p + 2 : Nat) s.size false), .int .i64 n] w fun e w' => e = .returned (.tuple #[.string (s.extract (p + 2) (p + 2 + n)), .agg (cur s (p + 2 + n : Nat) s.size false)]) ∧ Below w.heap.size w w' := fun w => by
      have := text_yes s (p + 2) s.size n w hm (by omega) (Nat.le_refl _) k5
      unfold cur
      push_cast at this ⊢
      exact this
    rw [show p + (2 + n) = p + 2 + n by omega]
    exact take_more s _ p (p + 1) (p + 2) (p + 2 + n) false false false (bt s p) n w b0 N1 N2 T3
end Go.Proofs.YtpkmpinbpfblfaaGreatDoor.F3
namespace Go.Proofs.YtpkmpinbpfblfaaGreatDoor.F4
open Go.ChangeShapes Go.WideShapes Go.ChangeAt Go.RowKit
open Go.Proofs.YtpkmpinbpfblfaaGreatDoor.F1
open Go.Proofs.YtpkmpinbpfblfaaGreatDoor.F2
open Go.Proofs.YtpkmpinbpfblfaaGreatDoor.F3
open Go.Proofs.YtpkmpinbpfblfaaGreatDoor.Cur (new_any left_ok)
open Go.Proofs.YtpkmpinbpfblfaaGreatDoor.Bk (Bk Sh shC cur cur_one loadVarK wpList_builtK wpList_loadK wpList_storeK run_loadK below_setRow alloc_size)
open Go.Proofs.YtpkmpinbpfblfaaGreatDoor.Hs
open Go.Proofs.YtpkmpinbpfblfaaGreatDoor.Hx (conv8 ex_built H.storeRow)
open Go.Proofs.YtpkmpinbpfblfaaGreatDoor.Tl (cellsT oneT shT Lst TRow bs_one app_one cells_new)
set_option linter.unusedVariables false
set_option maxRecDepth 100000
set_option maxRecDepth 100000

/-- The answer: TLVs, a place, an error; the list is the call's own. -/
def AnsT (p : List T × Int × Int) (w : World) (e : Ending) (w' : World) : Prop :=
  ∃ a c, e = .returned (.tuple #[.slice a p.1.length c, .int .i64 p.2.1, .int .i64 p.2.2]) ∧ Lst w.heap.size w' (.slice a p.1.length c) p.1 ∧ Below w.heap.size w w'
theorem AnsT.no {p : List T × Int × Int} {w w' : World} {c d : Int} (h : p = ([], c, d)) (hb : Below w.heap.size w w') : AnsT p w (.returned (.tuple #[.slice none 0 0, .int .i64 c, .int .i64 d])) w' := by
  subst h
  exact ⟨none, 0, rfl, Lst.nil _ _, hb⟩
theorem AnsT.yes {p : List T × Int × Int} {w w' : World} {a : Option Addr} {c n : Nat} {l : List T} (h : p = (l, 0, 0)) (hn : l.length = n) (hl : Lst w.heap.size w' (.slice a n c) l) (hb : Below w.heap.size w w') : AnsT p w (.returned (.tuple #[.slice a n c, .int .i64 0, .int .i64 0])) w' := by
  subst h hn
  exact ⟨a, c, rfl, hl, hb⟩
/-- Where the cursor in a block stands. -/
def curAt (w : World) (v : Value) : Nat := match v with
  | .pointer (some p) => match w.cell? (p.add 1) with
    | some (.int _ n) => n.toNat
    | _ => 0
  | _ => 0
theorem curAt_of {w : World} {g : Nat} {s : ByteArray} {a n : Int} {b : Bool} (h : Bk 61 w g (cur s a n b)) : curAt w (.pointer (some ⟨g, 0, none⟩)) = a.toNat := by
  have h1 := h.cell 1 (.int .i64 a) rfl
  unfold curAt
  simp only [Tl.add_one, Nat.zero_add, h1]
theorem left_is (s : ByteArray) (p : Nat) (d : Int) (hs : s.size ≤ 1048576) (hp : p ≤ s.size) (hd : d = (s.size : Int) - p) (w : World) :
    Calls Tryz.prog 37 #[.agg (cur s p s.size false)] w fun e w' => e = .returned (.int .i64 d) ∧ Below w.heap.size w w' := by
  have h := left_ok s p s.size w
  rw [IntWalk.wrap64_in ((s.size : Int) - (p : Int)) (by omega)] at h
  rw [hd]
  exact h
set_option maxHeartbeats 6400000 in
theorem split_own (s : ByteArray) (base : Int) (w : World) (hs : s.size ≤ 100000) (h0 : 0 ≤ base) (h1 : base ≤ 1099511627776) : Calls Tryz.prog 21 #[.string s, .int .i64 base] w (AnsT (outT base s) w) := by
  have HS := Lib.hid hs
  have HN := Lib.hid (fun V => new_any s V (by unfold maxLen; omega))
  clear hs
  go_enter Tryz.func21, Tryz.ntmps21
  go_wp2_with fail
  refine (HN.out _).mono ?_
  rintro e w1 ⟨rfl, hb⟩
  have C0 := Lib.hid (Bk.Bk.new 61 w1 noC)
  have C1 := Lib.hid (C0.out.put (cur s (0 : Nat) s.size false))
  have HB := Lib.hid (below_setRow (balloc hb (.cells noC 61)) hb.size (cur s (0 : Nat) s.size false))
  have HG1 : Hid (w.heap.size ≤ w1.heap.size) := Lib.hid hb.size
  clear hb HN
  go_wp2_with (first | (refine wpList_storeK (b := w1.heap.size) shC rfl _ _ rfl rfl rfl C0.out rfl rfl (cur_one _ _ _ _) ?_))
  change Code.wp _ _ _ _ ((w1.alloc (.cells noC 61)).setRow w1.heap.size (cur s (0 : Nat) s.size false))
  clear C0
  generalize (w1.alloc (.cells noC 61)).setRow w1.heap.size (cur s (0 : Nat) s.size false) = W1 at *
  generalize w1.heap.size = g1 at *
  change Code.wp _ _ _ (Act.mk _ _) _
  go_loopw [7, 8] (fun v pv wr => ∃ (l : List El) (p g : Nat) (r : List UInt8), pv = .pointer (some ⟨g, 0, none⟩) ∧ Hid (Bk 61 wr g (cur s p s.size false)) ∧ Hid (w.heap.size ≤ g) ∧ Hid ((encT l).length = p) ∧ Hid (Lst w.heap.size wr v (placed base l)) ∧ Hid (okT l) ∧ Hid (s.data.toList = encT l ++ r) ∧ Hid (Below w.heap.size w wr)) (fun _ pv wr => s.size - curAt wr pv)
  case atStart => exact ⟨[], 0, g1, s.data.toList, rfl, C1, HG1, Lib.hid rfl, Lib.hid (Lst.nil _ _), Lib.hid okT_nil, Lib.hid rfl, HB⟩
  case round =>
    obtain ⟨l, p, g, r, rfl, HC, HGB, HP, HL, HO, HE, HB⟩ := hrel
    clear C1 HG1
    have HZ : Hid (s.size = p + r.length) := Lib.hid (by rw [size_of HE.out, List.length_append, HP.out])
    have HC0 := HC
    have hc1 := HC.out.cell 1 (.int .i64 p) rfl
    have hp0 : 0 ≤ (p : Int) := Int.natCast_nonneg _
    have hp1 : (p : Int) ≤ 100000 := by have := HZ.out; have := HS.out; omega
    obtain ⟨d, hd⟩ : ∃ d, d = (s.size : Int) - p := ⟨_, rfl⟩
    have PL := Lib.hid (fun V => left_is s p d (by have := HS.out; omega) (by have := HZ.out; omega) hd V)
    by_cases hu : r = []
    · subst hu
      have HY := Lib.hid (out_yes (base := base) HO.out (by rw [HE.out, List.append_nil]))
      have e1 : ¬ 0 < d := by have := HZ.out; simp only [List.length_nil] at this; omega
      obtain ⟨a, c, rfl⟩ := HL.out.slice
      have HW := Lib.hid HL.out
      clear HL HP HZ HE hd hc1
      generalize (p : Int) = pi at *
      go_wp2_with (first | (refine wpList_loadK (b := g) shC rfl _ rfl rfl HC.out rfl ?_))
      refine (PL.out _).mono ?_
      rintro e w2 ⟨rfl, hb⟩
      have HW := Lib.hid (HW.out.below hb)
      have HB := Lib.hid (bcall HB.out hb)
      clear hb PL HC
      go_wp2
      go_ret3
      exact AnsT.yes HY.out rfl HW.out HB.out
    · have hr : 0 < r.length := by
        cases r with
        | nil => exact absurd rfl hu
        | cons _ _ => simp
      have e1 : 0 < d := by have := HZ.out; omega
      clear hr
      rcases take_any HE.out HP.out hu (by have := HS.out; omega) with ⟨x, r', hc, ht⟩ | ⟨hc, t, q, ht⟩
      · have PT := Lib.hid ht
        obtain ⟨ho, he⟩ := cut1_some hc
        have HO := Lib.hid (okT_snoc HO.out ho)
        have HE : Hid (s.data.toList = encT (l ++ [x]) ++ r') := Lib.hid (by rw [HE.out, he, encT_snoc, List.append_assoc])
        have HCC : Hid ((placed base l).length ≤ 100000) := Lib.hid (by rw [placed_len]; have := HS.out; have := HP.out; have := HZ.out; have := len_le l; omega)
        have HPL : Hid (placed base (l ++ [x]) = placed base l ++ [(base + (p : Int), x)]) := Lib.hid (by rw [placed_snoc, HP.out])
        have HP2 : Hid ((encT (l ++ [x])).length = p + (enc1 x).length) := Lib.hid (by rw [encT_snoc, List.length_append, HP.out])
        have HM : Hid (s.size - (p + (enc1 x).length) < s.size - p) := Lib.hid (by
          have := HZ.out
          have h1 := congrArg List.length he
          rw [List.length_append] at h1
          have := enc1_pos x
          omega)
        clear hu hc ht ho he HZ hd
        generalize p + (enc1 x).length = p' at *
        generalize placed base l = lp at *
        go_wp2_with (first | (refine wpList_loadK (b := g) shC rfl _ rfl rfl HC.out rfl ?_))
        refine (PL.out _).mono ?_
        rintro e w2 ⟨rfl, hb⟩
        have HL := Lib.hid (HL.out.below hb)
        have HB := Lib.hid (bcall HB.out hb)
        have HC := Lib.hid (HC.out.below hb)
        clear hb PL hc1
        go_wp2_with (first | (refine wpList_loadK (b := g) shC rfl _ rfl rfl HC.out rfl ?_))
        refine (PT.out _).mono ?_
        rintro e w3 ⟨rfl, hb⟩
        have HL := Lib.hid (HL.out.below hb)
        have HB := Lib.hid (bcall HB.out hb)
        have HC := Lib.hid (HC.out.below hb)
        clear hb PT
        have hg : Hid (g < w3.heap.size) := Lib.hid HC.out.lt
        have hgB : Hid (w.heap.size ≤ w3.heap.size) := Lib.hid HB.out.size
        have T0 : Hid (Bk 31 ((w3.alloc (.cells (cellsT zT) 31)).alloc (.cells noC 61)) w3.heap.size (cellsT zT)) := Lib.hid ((Bk.Bk.new _ _ _).old _)
        have U0 : Hid (Bk 61 (((w3.alloc (.cells (cellsT zT) 31)).alloc (.cells noC 61)).setRow w3.heap.size (cellsT (0, x))) (w3.heap.size + 1) noC) := Lib.hid (by
          have := Bk.Bk.new 61 (w3.alloc (.cells (cellsT zT) 31)) noC
          rw [alloc_size] at this
          exact this.row (by omega) _)
        have T1 := Lib.hid ((T0.out.put (cellsT (0, x))).row (g := w3.heap.size + 1) (by omega) (cur s p' s.size false))
        have U1 := Lib.hid (U0.out.put (cur s p' s.size false))
        have HBB := Lib.hid (below_setRow (below_setRow (balloc (balloc (Below.refl _ w3) (.cells (cellsT zT) 31)) (.cells noC 61)) (Nat.le_refl _) (cellsT (0, x))) (Nat.le_succ _) (cur s p' s.size false))
        go_upto_region 5 with (first | (refine wpList_storeK (b := w3.heap.size) shT rfl _ _ rfl rfl rfl T0.out rfl rfl (oneT (0, x)) ?_) | (refine wpList_storeK (b := w3.heap.size + 1) shC rfl _ _ rfl rfl rfl U0.out rfl rfl (cur_one _ _ _ _) ?_))
        clear T0 U0
        change Code.wp _ _ _ _ ((((w3.alloc (.cells (cellsT zT) 31)).alloc (.cells noC 61)).setRow w3.heap.size (cellsT (0, x))).setRow (w3.heap.size + 1) (cur s p' s.size false))
        generalize (((w3.alloc (.cells (cellsT zT) 31)).alloc (.cells noC 61)).setRow w3.heap.size (cellsT (0, x))).setRow (w3.heap.size + 1) (cur s p' s.size false) = W4 at *
        have HC := Lib.hid (HC.out.below HBB.out)
        have c3 := U1.out.cell 3 (.bool false) rfl
        have c1 := HC.out.cell 1 (.int .i64 p) rfl
        have f1 := T1.out.frozen 1
        have d1 := T1.out.cell 1 (.int .i64 0) rfl
        have hbp : IntKind.i64.wrap (base + (p : Int)) = base + (p : Int) := IntWalk.i64_in _ (by omega)
        have hbq : wrap64 (base + (p : Int)) = base + (p : Int) := IntWalk.wrap64_in _ (by omega)
        go_upto_region 8 with fail
        have T1 := Lib.hid (T1.out.set (i := 1) (v := .int .i64 (base + (p : Int))) (cs' := cellsT (base + (p : Int), x)) rfl)
        have U1 := Lib.hid (U1.out.off (p := ⟨w3.heap.size, 1, none⟩) (by show w3.heap.size + 1 ≠ w3.heap.size; omega) (.int .i64 (base + (p : Int))))
        have HC := Lib.hid (HC.out.off (p := ⟨w3.heap.size, 1, none⟩) (by show g ≠ w3.heap.size; have := hg.out; omega) (.int .i64 (base + (p : Int))))
        have HBB := Lib.hid (HBB.out.setCell (p := ⟨w3.heap.size, 1, none⟩) (Nat.le_refl _) (.int .i64 (base + (p : Int))))
        have HL := Lib.hid (HL.out.below HBB.out)
        have HB := Lib.hid (bcall HB.out HBB.out)
        clear HBB
        generalize W4.setCell ⟨w3.heap.size, 1, none⟩ (.int .i64 (base + (p : Int))) = W5 at *
        generalize w3.heap.size = g9 at *
        clear c3 c1 f1 d1 hbp hbq
        have HLA := Lib.hid (HL.out.below (balloc (Below.refl _ W5) (.cells (cellsT (base + (p : Int), x)) 31)))
        have HBA := Lib.hid (balloc HB.out (.cells (cellsT (base + (p : Int), x)) 31))
        clear HL HB hg hgB HBB
        go_upto_region 9 with (first | (refine wpList_loadK (b := g9) shT rfl _ rfl rfl T1.out rfl ?_) | (refine bs_one rfl _ rfl (m := (base + (p : Int), x)) rfl ?_) | (at_builtin; refine app_one rfl _ _ rfl w.heap.size _ lp (base + (p : Int), x) W5.heap.size 1 rfl HLA.out rfl (cells_new (base + (p : Int), x) W5) HCC.out HBA.out.size ?_))
        intro v' w' hl hgr hb
        have HC := Lib.hid (HLA.out.keeps hgr (HC.out.old _) (by decide))
        have U1 := Lib.hid (HLA.out.keeps hgr (U1.out.old _) (by decide))
        have HL := Lib.hid hl
        have HB := Lib.hid (HBA.out.trans hb)
        rw [← HPL.out] at HL
        clear hl hgr hb HLA HBA T1 HPL HCC
        go_upto_region 10 with (first | (refine wpList_loadK (b := g9 + 1) shC rfl _ rfl rfl U1.out rfl ?_) | (refine wpList_storeK (b := g) shC rfl _ _ rfl rfl rfl HC.out rfl rfl (cur_one _ _ _ _) ?_))
        have HL := Lib.hid (HL.out.off_row HC.out (by decide) (cur s p' s.size false))
        have HB := Lib.hid (below_setRow HB.out HGB.out (cur s p' s.size false))
        have HC := Lib.hid (HC.out.put (cur s p' s.size false))
        generalize w'.setRow g (cur s p' s.size false) = X at *
        have C0 := Lib.hid (Bk.Bk.new 61 X noC)
        go_wp2_with (first | (refine wpList_loadK (b := g) shC rfl _ rfl rfl HC.out rfl ?_) | (refine wpList_storeK (b := X.heap.size) shC rfl _ _ rfl rfl rfl C0.out rfl rfl (cur_one _ _ _ _) ?_))
        have hmm : s.size - curAt ((X.alloc (.cells noC 61)).setRow X.heap.size (cur s p' s.size false)) (.pointer (some ⟨X.heap.size, 0, none⟩)) < s.size - curAt wr (.pointer (some ⟨g, 0, none⟩)) := by
          rw [curAt_of (C0.out.put (cur s p' s.size false)), curAt_of HC0.out]
          simpa using HM.out
        have HMM := Lib.hid hmm
        have HB1 := Lib.hid (below_setRow (balloc (Below.refl _ X) (.cells noC 61)) (Nat.le_refl _) (cur s p' s.size false))
        clear hmm
        simp only [Act.put]
        go_roundw
        case rel => exact ⟨l ++ [x], p', X.heap.size, r', rfl, Lib.hid (C0.out.put _), Lib.hid HB.out.size, HP2, Lib.hid (HL.out.below HB1.out), HO, HE, Lib.hid (bcall HB.out HB1.out)⟩
        case measure => exact HMM.out
      · have PT := Lib.hid ht
        have HY := Lib.hid (out_no (base := base) HO.out HE.out hc hu)
        rw [HP.out] at HY
        clear hu hc ht HZ hd HP HE HO
        go_wp2_with (first | (refine wpList_loadK (b := g) shC rfl _ rfl rfl HC.out rfl ?_))
        refine (PL.out _).mono ?_
        rintro e w2 ⟨rfl, hb⟩
        have HB := Lib.hid (bcall HB.out hb)
        have HC := Lib.hid (HC.out.below hb)
        clear hb PL hc1
        go_wp2_with (first | (refine wpList_loadK (b := g) shC rfl _ rfl rfl HC.out rfl ?_))
        refine (PT.out _).mono ?_
        rintro e w3 ⟨rfl, hb⟩
        have HB := Lib.hid (bcall HB.out hb)
        have HC := Lib.hid (HC.out.below hb)
        clear hb PT
        have T0 : Hid (Bk 31 ((w3.alloc (.cells (cellsT zT) 31)).alloc (.cells noC 61)) w3.heap.size (cellsT zT)) := Lib.hid ((Bk.Bk.new _ _ _).old _)
        have U0 : Hid (Bk 61 (((w3.alloc (.cells (cellsT zT) 31)).alloc (.cells noC 61)).setRow w3.heap.size (cellsT t)) (w3.heap.size + 1) noC) := Lib.hid (by
          have := Bk.Bk.new 61 (w3.alloc (.cells (cellsT zT) 31)) noC
          rw [alloc_size] at this
          exact this.row (by omega) _)
        have U1 := Lib.hid (U0.out.put (cur s q s.size true))
        have HBB := Lib.hid (below_setRow (below_setRow (balloc (balloc (Below.refl _ w3) (.cells (cellsT zT) 31)) (.cells noC 61)) (Nat.le_refl _) (cellsT t)) (Nat.le_succ _) (cur s q s.size true))
        go_upto_region 5 with (first | (refine wpList_storeK (b := w3.heap.size) shT rfl _ _ rfl rfl rfl T0.out rfl rfl (oneT t) ?_) | (refine wpList_storeK (b := w3.heap.size + 1) shC rfl _ _ rfl rfl rfl U0.out rfl rfl (cur_one _ _ _ _) ?_))
        clear T0 U0
        change Code.wp _ _ _ _ ((((w3.alloc (.cells (cellsT zT) 31)).alloc (.cells noC 61)).setRow w3.heap.size (cellsT t)).setRow (w3.heap.size + 1) (cur s q s.size true))
        generalize (((w3.alloc (.cells (cellsT zT) 31)).alloc (.cells noC 61)).setRow w3.heap.size (cellsT t)).setRow (w3.heap.size + 1) (cur s q s.size true) = W4 at *
        have HC := Lib.hid (HC.out.below HBB.out)
        have HB := Lib.hid (bcall HB.out HBB.out)
        clear HBB
        have c3 := U1.out.cell 3 (.bool true) rfl
        have c1 := HC.out.cell 1 (.int .i64 p) rfl
        have hbp : IntKind.i64.wrap (base + (p : Int)) = base + (p : Int) := IntWalk.i64_in _ (by omega)
        have hbq : wrap64 (base + (p : Int)) = base + (p : Int) := IntWalk.wrap64_in _ (by omega)
        generalize (p : Int) = pi at *
        go_wp2
        go_quiet (fail)
        go_wp2
        go_ret3
        exact AnsT.no HY.out (Tl.below_drewN HB.out _)
end Go.Proofs.YtpkmpinbpfblfaaGreatDoor.F4
namespace Go.Proofs.YtpkmpinbpfblfaaGreatDoor.S5
open Go.ChangeShapes Go.WideShapes Go.ChangeAt Go.RowKit
open Go.Proofs.YtpkmpinbpfblfaaGreatDoor.Ms
open Go.Proofs.YtpkmpinbpfblfaaGreatDoor.Cnt
open Go.Proofs.YtpkmpinbpfblfaaGreatDoor.S1
open Go.Proofs.YtpkmpinbpfblfaaGreatDoor.F1 (enc1 encT outT placed placed_len okT size_of len_le)
open Go.Proofs.YtpkmpinbpfblfaaGreatDoor.F4 (AnsT split_own)
open Go.Proofs.YtpkmpinbpfblfaaGreatDoor.Tl (TRow cellsT indexT add_two)
open Go.Proofs.YtpkmpinbpfblfaaGreatDoor.Sx (cellsS Lst bs_one app_one cells_new)
open Go.Proofs.YtpkmpinbpfblfaaGreatDoor.Bk (Bk Sh wpList_builtK)
set_option linter.unusedVariables false
set_option maxRecDepth 100000
set_option maxRecDepth 100000

/-- The first k of TLVs with places, without them. -/
def els (l : List F1.T) (k : Nat) : List El := (l.take k).map Prod.snd
theorem els_zero (l : List F1.T) : els l 0 = [] := by unfold els; simp
theorem els_snoc (l : List F1.T) (k : Nat) (h : k < l.length) : els l (k + 1) = els l k ++ [l[k].2] := by
  unfold els
  rw [List.take_succ_eq_append_getElem h, List.map_append]
  rfl
theorem els_all (l : List F1.T) : els l l.length = l.map Prod.snd := by unfold els; rw [List.take_length]
theorem els_len (l : List F1.T) (k : Nat) : (els l k).length ≤ k := by unfold els; rw [List.length_map, List.length_take]; omega
theorem lst_mono {B B' : Nat} {w : World} {v : Value} {l : List El} (h : Lst B w v l) (hB : B' ≤ B) : Lst B' w v l := by
  refine ⟨h.1, ?_⟩
  rcases h.2 with h | ⟨k, cap, cur, a, b, c, d⟩
  · exact .inl h
  · exact .inr ⟨k, cap, cur, a, Nat.le_trans hB b, c, d⟩
/-- The answer of a sifting: those kept (the list is the call's own), and whether none must be known. -/
def AnsF (l : List El) (w : World) (e : Ending) (w' : World) : Prop :=
  ∃ a c, e = .returned (.tuple #[.slice a (keep l).length c, .bool (knownB l)]) ∧ Lst w.heap.size w' (.slice a (keep l).length c) (keep l) ∧ Below w.heap.size w w'
theorem AnsF.of {l : List El} {w w' : World} {v : Value} {k : Bool} (hk : k = knownB l) (hl : Lst w.heap.size w' v (keep l)) (hb : Below w.heap.size w w') : AnsF l w (.returned (.tuple #[v, .bool k])) w' := by
  obtain ⟨a, c, rfl⟩ := hl.slice
  exact ⟨a, c, by rw [hk], hl, hb⟩
theorem bool_val {a b : Bool} (h : a = b) : Value.bool a = Value.bool b := by rw [h]

set_option maxHeartbeats 3200000 in
theorem sift_any (a : Option Addr) (c : Nat) (l : List F1.T) (w : World) (hl : TRow w a l) (ln : l.length ≤ 100000) :
    Calls Tryz.prog 66 #[.slice a l.length c] w (AnsF (l.map Prod.snd) w) := by
  have HLn := Lib.hid ln
  clear ln
  go_enter Tryz.func66, Tryz.ntmps66
  go_wp2
  go_loopw [4, 5, 10] (fun v kn i wr => ∃ k : Nat, k ≤ l.length ∧ i = .int .i64 k ∧ kn = .bool (knownB (els l k)) ∧ Hid (Lst w.heap.size wr v (keep (els l k))) ∧ Hid (Below w.heap.size w wr)) (fun _ _ i _ => l.length - (intOf i).toNat)
  case atStart => exact ⟨0, Nat.zero_le _, rfl, by rw [els_zero]; rfl, Lib.hid (by rw [els_zero]; exact Lst.nil _ _), Lib.hid (Below.refl _ _)⟩
  case round =>
    obtain ⟨k, hk, rfl, rfl, HV, HB⟩ := hrel
    by_cases hlt : k < l.length
    · obtain ⟨p, rfl, hp, c0, c1, c2⟩ := (hl.below HB.out) k hlt
      have ix := fun W => indexT p l.length c k hlt W
      have HT := Lib.hid (els_snoc l k hlt)
      have hk2 : (k : Int) ≤ 100000 := by have := HLn.out; omega
      have HC : Hid ((keep (els l k)).length ≤ 100000) := Lib.hid (by have := HLn.out; have := keep_len (els l k); have := els_len l k; omega)
      rw [add_one] at c1
      rw [add_two] at c2
      generalize l[k] = u at *
      generalize els l k = lk at *
      obtain ⟨at0, d, n⟩ := u
      simp only [] at c0 c1 c2 HT
      have HX := Lib.hid (Bk.Bk.new 31 wr (cellsT (at0, d, n)))
      have HV := Lib.hid (HV.out.below (balloc (Below.refl _ wr) (.cells (cellsT (at0, d, n)) 31)))
      have HB := Lib.hid (balloc HB.out (.cells (cellsT (at0, d, n)) 31))
      go_upto_region 6 with fail
      change Code.wp _ _ _ _ (wr.alloc (.cells (cellsT (at0, d, n)) 31))
      generalize wr.alloc (.cells (cellsT (at0, d, n)) 31) = W at *
      generalize wr.heap.size = q at *
      clear c0 c1 c2 hp ix
      have c0 := HX.out.cell 0 (.int .i64 n) rfl
      have c2 := HX.out.cell 2 (.string d) rfl
      by_cases h1 : n < 2
      · have hk0 : keepB (d, n) = false := by unfold keepB; simp; omega
        have e1 := keep_no hk0 lk
        have e2 : knownB (lk ++ [(d, n)]) = knownB lk := by rw [known_snoc]; simp; omega
        rw [← HT.out] at e1 e2
        rw [← e1] at HV
        have E2 := Lib.hid e2
        clear e1 e2 hk0 HX
        go_wp2
        go_roundw
        case rel => exact ⟨k + 1, hlt, by go_num, bool_val E2.out.symm, HV, HB⟩
        case measure => simp [intOf]; omega
      by_cases h2 : 127 < n
      · have hk0 : keepB (d, n) = false := by unfold keepB; simp; omega
        have e1 := keep_no hk0 lk
        have e2 : knownB (lk ++ [(d, n)]) = false := by rw [known_snoc]; simp; omega
        rw [← HT.out] at e1 e2
        rw [← e1] at HV
        have E2 := Lib.hid e2
        clear e1 e2 hk0 HX
        go_wp2
        go_roundw
        case rel => exact ⟨k + 1, hlt, by go_num, bool_val E2.out.symm, HV, HB⟩
        case measure => simp [intOf]; omega
      have hk0 : keepB (d, n) = true := by unfold keepB; simp; omega
      have e1 := keep_yes hk0 lk
      have e2 : knownB (lk ++ [(d, n)]) = knownB lk := by rw [known_snoc]; simp; omega
      rw [← HT.out] at e1 e2
      have E1 := Lib.hid e1
      have E2 := Lib.hid e2
      clear e1 e2 hk0
      generalize keep lk = kl at *
      have HLA := Lib.hid (HV.out.below (balloc (Below.refl _ W) (.cells (cellsS (d, n)) 73)))
      have HBA := Lib.hid (balloc HB.out (.cells (cellsS (d, n)) 73))
      go_upto_region 10 with (first | (refine wpList_builtK rfl 73 _ rfl (cellsS (d, n)) (by kernel_rfl) ?_) | (refine bs_one rfl _ rfl (m := (d, n)) rfl ?_) | (at_builtin; refine app_one rfl _ _ rfl w.heap.size _ kl (d, n) W.heap.size 1 rfl HLA.out rfl (cells_new (d, n) W) HC.out HBA.out.size ?_))
      intro v' w' hl2 hb _
      have HV : Hid (Lst w.heap.size w' v' (keep (els l (k + 1)))) := Lib.hid (by rw [E1.out]; exact hl2)
      have HB := Lib.hid (HBA.out.trans hb)
      clear hl2 hb HLA HBA HX c0 c2
      go_wp2
      go_roundw
      case rel => exact ⟨k + 1, hlt, by go_num, bool_val E2.out.symm, HV, HB⟩
      case measure => simp [intOf]; omega
    · obtain rfl : k = l.length := by omega
      rw [els_all] at HV
      go_wp2
      go_ret2
      exact AnsF.of (by rw [els_all]) HV.out HB.out
/-- The answer of Get: Subs (the list is the call's own), whether none must be known, an error. -/
def AnsS (p : List El × Bool × Int) (w : World) (e : Ending) (w' : World) : Prop :=
  ∃ a c, e = .returned (.tuple #[.slice a p.1.length c, .bool p.2.1, .int .i64 p.2.2]) ∧ Lst w.heap.size w' (.slice a p.1.length c) p.1 ∧ Below w.heap.size w w'
theorem AnsS.no {p : List El × Bool × Int} {w w' : World} {d : Int} (h : p = ([], false, d)) (hb : Below w.heap.size w w') : AnsS p w (.returned (.tuple #[.slice none 0 0, .bool false, .int .i64 d])) w' := by
  subst h
  exact ⟨none, 0, rfl, Lst.nil _ _, hb⟩
theorem AnsS.yes {p : List El × Bool × Int} {w w' : World} {a : Option Addr} {c n : Nat} {l : List El} {k : Bool} (h : p = (l, k, 0)) (hn : l.length = n) (hl : Lst w.heap.size w' (.slice a n c) l) (hb : Below w.heap.size w w') : AnsS p w (.returned (.tuple #[.slice a n c, .bool k, .int .i64 0])) w' := by
  subst h hn
  exact ⟨a, c, rfl, hl, hb⟩
set_option maxHeartbeats 3200000 in
theorem get_own (s : ByteArray) (w : World) (hs : s.size ≤ 100000) : Calls Tryz.prog 40 #[.string s] w (AnsS (outS s) w) := by
  have P1 := Lib.hid (split_own s 0 w hs (by omega) (by omega))
  rcases outS_cases s with ⟨l, ho, he, e, hk⟩ | ⟨p, e, hk⟩
  rotate_left
  · have HY := Lib.hid hk
    rw [e] at P1
    clear e hk hs
    go_enter Tryz.func40, Tryz.ntmps40
    go_wp2_with fail
    refine P1.out.mono ?_
    rintro r w1 ⟨a1, c1, rfl, h1, hb⟩
    have HB := Lib.hid hb
    clear h1 hb P1
    dsimp only [List.length_nil]
    go_wp2
    go_ret3
    exact AnsS.no HY.out HB.out
  have HZ := size_of he
  have hls := len_le l
  have HS := Lib.hid (show l.length ≤ 100000 by omega)
  have HQ := Lib.hid (show bytesN (keep l) ≤ 100000 by have := keep_size l; omega)
  have HK := Lib.hid (show (keep l).length ≤ 100000 by have := keep_len l; omega)
  have HP := Lib.hid (show (placed 0 l).length ≤ 100000 by rw [placed_len]; omega)
  have HD := Lib.hid (placed_snd l 0)
  have HY := Lib.hid hk
  rw [e] at P1
  clear e hk hs ho he HZ hls
  go_enter Tryz.func40, Tryz.ntmps40
  go_wp2_with fail
  refine P1.out.mono ?_
  rintro r w1 ⟨a1, c1, rfl, h1, hb⟩
  have P2 := Lib.hid (sift_any a1 c1 (placed 0 l) w1 h1.row HP.out)
  rw [HD.out] at P2
  have HB := Lib.hid hb
  clear h1 hb P1
  dsimp only
  generalize (placed 0 l).length = np at *
  go_wp2_with fail
  refine P2.out.mono ?_
  rintro r w2 ⟨a2, c2, rfl, h2, hb⟩
  have HL := Lib.hid (lst_mono h2 HB.out.size)
  have HB := Lib.hid (bcall HB.out hb)
  have P3 := Lib.hid (bytes_any a2 c2 (keep l) w2 h2.row (by have := HK.out; omega) (by have := HQ.out; omega))
  clear h2 hb P2
  have HE := HY.out
  clear HY
  rcases HE with ⟨hq, e⟩ | ⟨hq, e⟩
  · have HY := Lib.hid e
    have hq2 : ((bytesN (keep l) : Nat) : Int) ≤ 200 := by omega
    clear hq e
    generalize ((bytesN (keep l) : Nat) : Int) = n at *
    generalize hg : keep l = kl at *
    clear hg
    go_wp2_with fail
    refine P3.out.mono ?_
    rintro r w3 ⟨rfl, hb⟩
    have HL := Lib.hid (HL.out.below hb)
    have HB := Lib.hid (bcall HB.out hb)
    clear hb P3
    go_wp2
    go_ret3
    exact AnsS.yes HY.out rfl HL.out HB.out
  · have HY := Lib.hid e
    have hq2 : 200 < ((bytesN (keep l) : Nat) : Int) := by omega
    clear hq e
    generalize ((bytesN (keep l) : Nat) : Int) = n at *
    generalize hg : keep l = kl at *
    clear hg
    go_wp2_with fail
    refine P3.out.mono ?_
    rintro r w3 ⟨rfl, hb⟩
    have HB := Lib.hid (bcall HB.out hb)
    clear hb P3 HL
    go_wp2
    go_ret3
    exact AnsS.no HY.out HB.out
end Go.Proofs.YtpkmpinbpfblfaaGreatDoor.S5
