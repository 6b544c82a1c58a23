/-
  What stands ahead of the extensions of a route reply, or of what acknowledges one: checked and read by the program. Condition: at most 2^20 bytes.
-/
import Derived.Test.YtlelfapmleopaaaZ1
import Derived.Test.YtlelfapmleopaaaXc
import Derived.Test.YtlelfapmleopaaaAm
namespace Go.Proofs.Ytlelfapmleopaaa.Z3
open Go.ChangeShapes Go.WideShapes Go.ChangeAt Go.RowKit
open Go.Proofs.Ytlelfapmleopaaa.Ms
open Go.Proofs.Ytlelfapmleopaaa.Box
open Go.Proofs.Ytlelfapmleopaaa.Xv
open Go.Proofs.Ytlelfapmleopaaa.Xc (idx sl_m sl_l)
open Go.Proofs.Ytlelfapmleopaaa.Am (ret3)
open Go.Proofs.Ytlelfapmleopaaa.Z1
open Go.Proofs.Ytlelfapmleopaaa.Hs
open Go.Proofs.Ytlelfapmleopaaa.Hx (conv8)
open Go.Proofs.Ytlelfapmleopaaa.Nu
open Go.Proofs.Ytlelfapmleopaaa.Cur (numL num_yes text_yes new_any)
open Go.Proofs.Ytlelfapmleopaaa.Bk (Bk Sh results_one loadVarK wpList_builtK wpList_loadK wpList_storeK run_loadK alloc_size)
set_option linter.unusedVariables false
set_option maxRecDepth 100000
set_option maxRecDepth 100000
/-- A cursor's cells. -/
def curZ (s : ByteArray) (a z : Int) : Array Value := #[.string s, .int .i64 a, .int .i64 z, .bool false]
def cur (s : ByteArray) (a : Int) : Array Value := curZ s a 17
theorem curZ_one (s : ByteArray) (a z : Int) : ((curZ s a z).all fun x => x.oneCell') = true := by simp [curZ, Value.oneCell']
theorem cur_one (s : ByteArray) (a : Int) : ((cur s a).all fun x => x.oneCell') = true := curZ_one s a 17
theorem shC : Sh Try.prog 77 4 := ⟨_, Try.underlying77, by kernel_rfl⟩
theorem shM : Sh Try.prog 34 25 := ⟨_, Try.underlying34, by kernel_rfl⟩
theorem size_ext (s : ByteArray) (h : 20 ≤ s.size) : (s.extract 3 20).size = 17 := by simp; omega
theorem list_ext (s : ByteArray) (h : 20 ≤ s.size) (a k b : Nat) (hb : b = 3 + a) (ha : a + k ≤ 17) : ((s.extract 3 20).data.toList.drop a).take k = (s.data.toList.drop b).take k := by
  subst hb
  rw [ext_list, List.drop_take, List.take_take, List.drop_drop, Nat.min_eq_left (by omega)]
theorem cnew (s : ByteArray) (h : 20 ≤ s.size) (w : World) : Calls Try.prog 76 #[.string (s.extract 3 20)] w fun e w' => e = .returned (.agg (cur (s.extract 3 20) 0)) ∧ Below w.heap.size w w' := by
  have := new_any (s.extract 3 20) w (by rw [size_ext s h]; decide)
  rw [size_ext s h] at this
  exact this
theorem cnum (s : ByteArray) (h : 20 ≤ s.size) (a k b : Nat) (ai ki ci : Int) (hai : ai = a) (hki : ki = k) (hci : ci = (a : Int) + k) (hb : b = 3 + a) (ha : a + k ≤ 17) (h1 : 1 ≤ k) (h7 : k ≤ 7) (w : World) :
    Calls Try.prog 77 #[.agg (cur (s.extract 3 20) ai), .int .i64 ki] w fun e w' => e = .returned (.tuple #[.int .i64 (numL ((s.data.toList.drop b).take k)), .agg (cur (s.extract 3 20) ci)]) ∧ Below w.heap.size w w' := by
  subst hai hki hci
  have := num_yes (s.extract 3 20) a 17 k w (by rw [size_ext s h]; decide) (by omega) (by rw [size_ext s h]; omega) (by omega) h1 h7
  rw [list_ext s h a k b hb ha] at this
  exact this
theorem ctext (s : ByteArray) (h : 20 ≤ s.size) (a k b c : Nat) (ai ki ci : Int) (hai : ai = a) (hki : ki = k) (hci : ci = (a : Int) + k) (hb : b = 3 + a) (hc : c = b + k) (ha : a + k ≤ 17) (w : World) :
    Calls Try.prog 78 #[.agg (cur (s.extract 3 20) ai), .int .i64 ki] w fun e w' => e = .returned (.tuple #[.string (s.extract b c), .agg (cur (s.extract 3 20) ci)]) ∧ Below w.heap.size w w' := by
  subst hai hki hci
  have := text_yes (s.extract 3 20) a 17 k w (by rw [size_ext s h]; decide) (by omega) (by rw [size_ext s h]; omega) (by omega)
  rw [show (s.extract 3 20).extract a (a + k) = s.extract b c from text_eq (by rw [ext_list, ext_list s b c, Nat.add_sub_cancel_left, list_ext s h a k b hb ha, hc, Nat.add_sub_cancel_left])] at this
  exact this
theorem one_num (s : ByteArray) (k : Nat) (h : k < s.size) : ((numL ((s.data.toList.drop k).take 1) : Nat) : Int) = bt s k := by
  have e : s.data.toList.drop k = s[k] :: s.data.toList.drop (k + 1) := by
    rw [List.drop_eq_getElem_cons (by simpa using h)]; rfl
  rw [e, ← bt_eq s k h]
  show ((numL [s[k]] : Nat) : Int) = _
  simp [numL]
theorem pos_of {s : ByteArray} (h : bt s 0 = 2 ∨ bt s 0 = 4) : 0 < s.size := by
  rcases Nat.eq_zero_or_pos s.size with hz | hz
  · exfalso
    have e : s.data.toList = [] := List.length_eq_zero_iff.1 (by rw [size_list]; exact hz)
    have : bt s 0 = 0 := by unfold bt; rw [e]; rfl
    omega
  · exact hz
/-- The first byte, by a cursor. -/
theorem first_any (s : ByteArray) (w : World) (hz : 0 < s.size) (hs : s.size ≤ 1048576) : Calls Try.prog 77 #[.agg (curZ s 0 s.size), .int .i64 1] w fun e w' => e = .returned (.tuple #[.int .i64 (bt s 0), .agg (curZ s 1 s.size)]) ∧ Below w.heap.size w w' := by
  have := num_yes s 0 s.size 1 w (by unfold maxLen; omega) (by omega) (by omega) (by omega) (by omega) (by omega)
  rw [one_num s 0 hz] at this
  exact this
theorem start_any (s : ByteArray) (w : World) (hs : s.size ≤ 1048576) : Calls Try.prog 76 #[.string s] w fun e w' => e = .returned (.agg (curZ s 0 s.size)) ∧ Below w.heap.size w w' := new_any s w (by unfold maxLen; omega)
/-- What stands in the middle of readReply. -/
structure G (w0 w : World) (mb cb : Nat) (m : M) (c : ByteArray) (a : Int) : Prop where
  msg : Bx w mb m
  cu : Bk 77 w cb (cur c a)
  res : Bx w w0.heap.size M.zero
  o1 : w0.heap.size < mb
  o2 : mb < cb
  bel : Below w0.heap.size w0 w
section
variable {w0 w w' : World} {mb cb : Nat} {m m' : M} {c : ByteArray} {a : Int}
theorem G.call (g : G w0 w mb cb m c a) (hb : Below w.heap.size w w') : G w0 w' mb cb m c a := ⟨g.msg.below hb, g.cu.below hb, g.res.below hb, g.o1, g.o2, g.bel.trans (hb.mono g.bel.size)⟩
theorem G.set (g : G w0 w mb cb m c a) {i : Nat} {v : Value} (hm : m.cells.setIfInBounds i v = m'.cells) : G w0 (w.setCell ⟨mb, i, none⟩ v) mb cb m' c a :=
  ⟨g.msg.set hm, g.cu.off (by have := g.o2; show cb ≠ mb; omega) _, g.res.off (by have := g.o1; show w0.heap.size ≠ mb; omega) _, g.o1, g.o2, g.bel.setCell (p := ⟨mb, i, none⟩) (by have := g.o1; show w0.heap.size ≤ mb; omega) _⟩
theorem G.row (g : G w0 w mb cb m c a) (b : Int) : G w0 (w.setRow cb (cur c b)) mb cb m c b :=
  ⟨g.msg.row (by have := g.o2; omega) _, g.cu.put _, g.res.row (by have := g.o1; have := g.o2; omega) _, g.o1, g.o2, below_setRow g.bel (by have := g.o1; have := g.o2; omega) _⟩
end
set_option maxHeartbeats 6400000 in
theorem read_any (s : ByteArray) (w : World) (h : 20 ≤ s.size) : Calls Try.prog 96 #[.string s] w fun e w' => e = .returned (.agg (hdM s).cells) ∧ Below w.heap.size w w' := by
  have i1 := idx s 1 1 rfl (by omega)
  have i2 := idx s 2 2 rfl (by omega)
  have sl := sl_m s 3 20 3 20 rfl rfl (by omega) (by omega)
  have HN := Lib.hid (fun V => cnew s h V)
  have C0 := Lib.hid (fun V => cnum s h 0 1 3 0 1 1 rfl rfl (by rfl) rfl (by omega) (by omega) (by omega) V)
  have C1 := Lib.hid (fun V => ctext s h 1 4 4 8 1 4 5 rfl rfl (by rfl) rfl rfl (by omega) V)
  have C2 := Lib.hid (fun V => cnum s h 5 4 8 5 4 9 rfl rfl (by rfl) rfl (by omega) (by omega) (by omega) V)
  have C3 := Lib.hid (fun V => ctext s h 9 4 12 16 9 4 13 rfl rfl (by rfl) rfl rfl (by omega) V)
  have C4 := Lib.hid (fun V => cnum s h 13 4 16 13 4 17 rfl rfl (by rfl) rfl (by omega) (by omega) (by omega) V)
  have HH := Lib.hid (show hdM s = ({ M.zero with kind := 4, flags := bt s 1 / 64, plen := bt s 2, hops := ((numL ((s.data.toList.drop 3).take 1) : Nat) : Int), addr := s.extract 4 8, seq := ((numL ((s.data.toList.drop 8).take 4) : Nat) : Int), orig := s.extract 12 16, interval := ((numL ((s.data.toList.drop 16).take 4) : Nat) : Int) } : M) from by unfold hdM num4; rw [one_num s 3 (by omega)])
  have n1 := bt_nn s 1
  have l1 := bt_lt s 1
  have n2 := bt_nn s 2
  have l2 := bt_lt s 2
  have v1 := conv8 (bt s 1 / 64) (by omega) (by omega)
  have v2 := conv8 (bt s 2) n2 l2
  have HQ : Hid (IntKind.u8.wrap ((bt s 1).tdiv 64) = bt s 1 / 64) := Lib.hid (IntWalk.u8_quo _ _ (by omega))
  clear h
  generalize hdM s = R at *
  generalize s.extract 3 20 = c at *
  generalize ((numL ((s.data.toList.drop 3).take 1) : Nat) : Int) = y0 at *
  generalize s.extract 4 8 = y1 at *
  generalize ((numL ((s.data.toList.drop 8).take 4) : Nat) : Int) = y2 at *
  generalize s.extract 12 16 = y3 at *
  generalize ((numL ((s.data.toList.drop 16).take 4) : Nat) : Int) = y4 at *
  generalize bt s 1 = x at *
  generalize bt s 2 = z at *
  go_enter Try.func96, Try.ntmps96
  go_upto_region 1 with fail
  change Code.wp _ _ _ _ (w.alloc (.cells M.zero.cells 34))
  have HS := Lib.hid (show Bx (w.alloc (.cells M.zero.cells 34)).drew w.heap.size M.zero ∧ Below w.heap.size w (w.alloc (.cells M.zero.cells 34)).drew from ⟨Bx.new w M.zero, (balloc (Below.refl _ w) (.cells M.zero.cells 34)).drew⟩)
  generalize w.alloc (.cells M.zero.cells 34) = W0 at *
  refine wp_region_held_drew (S := fun W => Bx W w.heap.size M.zero ∧ Below w.heap.size w W) (by kernel_rfl) HS.out (fun hS => ?_)
  clear HS
  generalize W0.drew = X at *
  refine H.tk (i := 0) (v := ?v0) ?h0 hS ?_
  case h0 => (intro w hw; go_simp; first | done | (with_reducible rfl))
  try simp only [Act.put, List.setIfInBounds_toArray, List.set_cons_zero, List.set_cons_succ]
  refine H.tk (i := 1) (v := ?v1) ?h1 hS ?_
  case h1 => (intro w hw; go_simp; first | done | (with_reducible rfl))
  try simp only [Act.put, List.setIfInBounds_toArray, List.set_cons_zero, List.set_cons_succ]
  refine H.tk (i := 2) (v := .int .u8 (x / 64)) ?h2 hS ?_
  case h2 => exact (fun w hw => by go_simp; rw [HQ.out])
  try simp only [Act.put, List.setIfInBounds_toArray, List.set_cons_zero, List.set_cons_succ]
  refine H.tk (i := 3) (v := ?v3) ?h3 hS ?_
  case h3 => (intro w hw; go_simp; first | done | (with_reducible rfl))
  try simp only [Act.put, List.setIfInBounds_toArray, List.set_cons_zero, List.set_cons_succ]
  refine H.tk (i := 4) (v := ?v4) ?h4 hS ?_
  case h4 => (intro w hw; go_simp; first | done | (with_reducible rfl))
  try simp only [Act.put, List.setIfInBounds_toArray, List.set_cons_zero, List.set_cons_succ]
  refine H.tk (i := 5) (v := ?v5) ?h5 hS ?_
  case h5 => (intro w hw; go_simp; first | done | (with_reducible rfl))
  try simp only [Act.put, List.setIfInBounds_toArray, List.set_cons_zero, List.set_cons_succ]
  refine H.tk (i := 6) (v := ?v6) ?h6 hS ?_
  case h6 => (intro w hw; go_simp; first | done | (with_reducible rfl))
  try simp only [Act.put, List.setIfInBounds_toArray, List.set_cons_zero, List.set_cons_succ]
  refine H.tk (i := 7) (v := .agg (M.cells { M.zero with kind := 4, flags := x / 64, plen := z })) ?h7 hS ?_
  case h7 => exact (fun w hw => Hx.ex_built rfl (by kernel_rfl))
  try simp only [Act.put, List.setIfInBounds_toArray, List.set_cons_zero, List.set_cons_succ]
  refine wpAnyH_ready (rs := [8]) (by kernel_rfl) (by simp) ?_
  refine AllReadyH.cons rfl (fun K hK => ?_) AllReadyH.nil
  go_simp
  refine hK.out _ _ (show Bx (X.alloc (.cells M.zero.cells 34)) w.heap.size M.zero ∧ Below w.heap.size w (X.alloc (.cells M.zero.cells 34)) from ⟨hS.1.old _, balloc hS.2 _⟩) (fun _ => ?_)
  clear hK K
  try simp only [Act.put, List.setIfInBounds_toArray, List.set_cons_zero, List.set_cons_succ]
  change wpAnyH _ _ _ _ _ _ _ _ (X.alloc (.cells M.zero.cells 34))
  refine Hx.H.storeRow (i := 9) (by simp only [List.getElem?_toArray, List.getElem?_cons_succ, List.getElem?_cons_zero]; rfl) (by kernel_rfl) rfl rfl (by kernel_rfl) X.heap.size (M.cells { M.zero with kind := 4, flags := x / 64, plen := z }) rfl rfl 34 M.zero.cells (heap_alloc_new _ _) infoM rfl (oneM _) (by rw [World.setRow_alloc_new]; exact ⟨hS.1.old _, balloc hS.2 _⟩) ?_
  refine wpAnyH_done (by kernel_rfl) ?_ _
  change Exit.then _ _ _ _ ((X.alloc (.cells M.zero.cells 34)).setRow X.heap.size (M.cells { M.zero with kind := 4, flags := x / 64, plen := z }))
  rw [World.setRow_alloc_new]
  have A := Lib.hid (Bx.new X { M.zero with kind := 4, flags := x / 64, plen := z })
  have R2 := Lib.hid (hS.1.old (.cells (M.cells { M.zero with kind := 4, flags := x / 64, plen := z }) 34))
  have bel2 := Lib.hid (balloc hS.2 (.cells (M.cells { M.zero with kind := 4, flags := x / 64, plen := z }) 34))
  have hmb : w.heap.size < X.heap.size := hS.1.lt
  clear hS i1 v1 i2 v2 HQ
  generalize X.alloc (.cells (M.cells { M.zero with kind := 4, flags := x / 64, plen := z }) 34) = V at *
  generalize X.heap.size = mb at *
  go_wp2_with fail
  refine (HN.out _).mono ?_
  rintro e w1 ⟨rfl, hb⟩
  have hlt : mb < w1.heap.size := (A.out.below hb).lt
  have C := Bk.Bk.new 77 w1 #[.string ⟨#[]⟩, .int .i64 0, .int .i64 0, .bool false]
  go_upto_region 3 with (refine wpList_storeK (b := w1.heap.size) shC rfl _ _ rfl rfl rfl C rfl rfl (cur_one c 0) ?_)
  clear C
  have G0 : G w ((w1.alloc (.cells #[.string ⟨#[]⟩, .int .i64 0, .int .i64 0, .bool false] 77)).setRow w1.heap.size (cur c 0)) (mb) w1.heap.size { M.zero with kind := 4, flags := x / 64, plen := z } c 0 :=
    ⟨((A.out.below hb).old _).row (by omega) _, (Bk.Bk.new 77 w1 _).put _, ((R2.out.below hb).old _).row (by omega) _, hmb, hlt, below_setRow (balloc (bcall bel2.out hb) _) (by omega) _⟩
  change Code.wp _ _ _ _ ((w1.alloc (.cells #[.string ⟨#[]⟩, .int .i64 0, .int .i64 0, .bool false] 77)).setRow w1.heap.size (cur c 0))
  generalize (w1.alloc (.cells #[.string ⟨#[]⟩, .int .i64 0, .int .i64 0, .bool false] 77)).setRow w1.heap.size (cur c 0) = W at *
  generalize w1.heap.size = cb at *
  clear A R2 hb bel2 sl HN
  have HG := Lib.hid G0
  clear G0
  go_wp2_with (first | (refine wpList_loadK (b := cb) shC rfl _ rfl rfl HG.out.cu rfl ?_))
  refine (C0.out _).mono ?_
  rintro e V0 ⟨rfl, hb⟩
  have G0 := HG.out.call hb
  clear HG C0 hb
  have d := G0.msg.cs.c16
  have fd := G0.msg.frozen 16
  have G1 : G w (V0.setCell ⟨mb, 16, none⟩ (.int .i64 y0)) (mb) cb { M.zero with kind := 4, flags := x / 64, plen := z, hops := y0 } c 0 := G0.set (m' := { M.zero with kind := 4, flags := x / 64, plen := z, hops := y0 }) (i := 16) rfl
  have HG := Lib.hid G1
  clear G0 G1
  go_upto_region 4 with (first | (refine wpList_storeK (b := cb) shC rfl _ _ rfl rfl rfl HG.out.cu rfl rfl (cur_one c 1) ?_))
  have HG := Lib.hid (HG.out.row 1)
  clear d fd
  change Code.wp _ _ _ _ ((V0.setCell ⟨mb, 16, none⟩ (.int .i64 y0)).setRow cb (cur c 1))
  generalize (V0.setCell ⟨mb, 16, none⟩ (.int .i64 y0)).setRow cb (cur c 1) = W0 at *
  go_wp2_with (first | (refine wpList_loadK (b := cb) shC rfl _ rfl rfl HG.out.cu rfl ?_))
  refine (C1.out _).mono ?_
  rintro e V1 ⟨rfl, hb⟩
  have G0 := HG.out.call hb
  clear HG C1 hb
  have d := G0.msg.cs.c19
  have fd := G0.msg.frozen 19
  have G1 : G w (V1.setCell ⟨mb, 19, none⟩ (.string y1)) (mb) cb { M.zero with kind := 4, flags := x / 64, plen := z, hops := y0, addr := y1 } c 1 := G0.set (m' := { M.zero with kind := 4, flags := x / 64, plen := z, hops := y0, addr := y1 }) (i := 19) rfl
  have HG := Lib.hid G1
  clear G0 G1
  go_upto_region 5 with (first | (refine wpList_storeK (b := cb) shC rfl _ _ rfl rfl rfl HG.out.cu rfl rfl (cur_one c 5) ?_))
  have HG := Lib.hid (HG.out.row 5)
  clear d fd
  change Code.wp _ _ _ _ ((V1.setCell ⟨mb, 19, none⟩ (.string y1)).setRow cb (cur c 5))
  generalize (V1.setCell ⟨mb, 19, none⟩ (.string y1)).setRow cb (cur c 5) = W1 at *
  go_wp2_with (first | (refine wpList_loadK (b := cb) shC rfl _ rfl rfl HG.out.cu rfl ?_))
  refine (C2.out _).mono ?_
  rintro e V2 ⟨rfl, hb⟩
  have G0 := HG.out.call hb
  clear HG C2 hb
  have d := G0.msg.cs.c12
  have fd := G0.msg.frozen 12
  have G1 : G w (V2.setCell ⟨mb, 12, none⟩ (.int .i64 y2)) (mb) cb { M.zero with kind := 4, flags := x / 64, plen := z, hops := y0, addr := y1, seq := y2 } c 5 := G0.set (m' := { M.zero with kind := 4, flags := x / 64, plen := z, hops := y0, addr := y1, seq := y2 }) (i := 12) rfl
  have HG := Lib.hid G1
  clear G0 G1
  go_upto_region 6 with (first | (refine wpList_storeK (b := cb) shC rfl _ _ rfl rfl rfl HG.out.cu rfl rfl (cur_one c 9) ?_))
  have HG := Lib.hid (HG.out.row 9)
  clear d fd
  change Code.wp _ _ _ _ ((V2.setCell ⟨mb, 12, none⟩ (.int .i64 y2)).setRow cb (cur c 9))
  generalize (V2.setCell ⟨mb, 12, none⟩ (.int .i64 y2)).setRow cb (cur c 9) = W2 at *
  go_wp2_with (first | (refine wpList_loadK (b := cb) shC rfl _ rfl rfl HG.out.cu rfl ?_))
  refine (C3.out _).mono ?_
  rintro e V3 ⟨rfl, hb⟩
  have G0 := HG.out.call hb
  clear HG C3 hb
  have d := G0.msg.cs.c20
  have fd := G0.msg.frozen 20
  have G1 : G w (V3.setCell ⟨mb, 20, none⟩ (.string y3)) (mb) cb { M.zero with kind := 4, flags := x / 64, plen := z, hops := y0, addr := y1, seq := y2, orig := y3 } c 9 := G0.set (m' := { M.zero with kind := 4, flags := x / 64, plen := z, hops := y0, addr := y1, seq := y2, orig := y3 }) (i := 20) rfl
  have HG := Lib.hid G1
  clear G0 G1
  go_upto_region 7 with (first | (refine wpList_storeK (b := cb) shC rfl _ _ rfl rfl rfl HG.out.cu rfl rfl (cur_one c 13) ?_))
  have HG := Lib.hid (HG.out.row 13)
  clear d fd
  change Code.wp _ _ _ _ ((V3.setCell ⟨mb, 20, none⟩ (.string y3)).setRow cb (cur c 13))
  generalize (V3.setCell ⟨mb, 20, none⟩ (.string y3)).setRow cb (cur c 13) = W3 at *
  go_wp2_with (first | (refine wpList_loadK (b := cb) shC rfl _ rfl rfl HG.out.cu rfl ?_))
  refine (C4.out _).mono ?_
  rintro e V4 ⟨rfl, hb⟩
  have G0 := HG.out.call hb
  clear HG C4 hb
  have d := G0.msg.cs.c14
  have fd := G0.msg.frozen 14
  have G1 : G w (V4.setCell ⟨mb, 14, none⟩ (.int .i64 y4)) (mb) cb { M.zero with kind := 4, flags := x / 64, plen := z, hops := y0, addr := y1, seq := y2, orig := y3, interval := y4 } c 13 := G0.set (m' := { M.zero with kind := 4, flags := x / 64, plen := z, hops := y0, addr := y1, seq := y2, orig := y3, interval := y4 }) (i := 14) rfl
  have HG := Lib.hid G1
  clear G0 G1
  go_upto_region 8 with fail
  clear d fd
  generalize V4.setCell ⟨mb, 14, none⟩ (.int .i64 y4) = W4 at *
  rw [← HH.out] at HG
  go_wp2_with (first | (refine wpList_loadM (b := mb) (m := R) rfl _ rfl rfl HG.out.msg ?_) | (refine wpList_storeM (b := w.heap.size) (m' := R) rfl _ _ rfl rfl rfl HG.out.res ?_))
  exact bodyPost_ret (v := .agg R.cells) (results_one (ty := 34) (tb := 34) (n := 25) rfl _ _ w.heap.size R.cells rfl shM (HG.out.res.put (m' := R)) rfl) rfl ⟨rfl, below_setRow HG.out.bel (Nat.le_refl _) _⟩
/-- The answer: what stands ahead, where it ends; or an error. -/
def AnsH (p : M × Int × Int) (w : World) (e : Ending) (w' : World) : Prop := e = .returned (.tuple #[.agg p.1.cells, .int .i64 p.2.1, .int .i64 p.2.2]) ∧ Below w.heap.size w w'
theorem AnsH.at {r : M} {n x : Int} {w w' : World} {e : Ending} (h : AnsH (r, n, x) w e w') : e = .returned (.tuple #[.agg r.cells, .int .i64 n, .int .i64 x]) ∧ Below w.heap.size w w' := h
theorem AnsH.mk' {p : M × Int × Int} {w w' : World} {r : M} {c d : Int} (h : p = (r, c, d)) (hb : Below w.heap.size w w') : AnsH p w (.returned (.tuple #[.agg r.cells, .int .i64 c, .int .i64 d])) w' := by
  subst h
  exact ⟨rfl, hb⟩
set_option maxHeartbeats 1600000 in
theorem ack_any (s : ByteArray) (w : World) (h4 : bt s 0 = 4) (hs : s.size ≤ 1048576) : Calls Try.prog 80 #[.string s] w (AnsH (headP s) w) := by
  by_cases h : s.size < 2
  · have HY := Lib.hid (head_ashort h4 h)
    clear h4
    go_enter Try.func80, Try.ntmps80
    go_upto_region 1 with fail
    change Code.wp _ _ _ _ (w.alloc (.cells M.zero.cells 34))
    have R0 := Lib.hid (Bx.new w M.zero)
    have bel := Lib.hid (balloc (Below.refl _ w) (.cells M.zero.cells 34))
    have hz := alloc_size w (.cells M.zero.cells 34)
    generalize w.alloc (.cells M.zero.cells 34) = W at *
    go_wp2_with (first | (refine wpList_builtK rfl 34 _ rfl (M.cells M.zero) (by kernel_rfl) ?_) | (refine wpList_storeM (b := w.heap.size) (m := M.zero) (m' := M.zero) rfl _ _ rfl rfl rfl R0.out ?_))
    exact bodyPost_ret (v := .tuple #[.agg (M.cells M.zero), .int .i64 (s.size : Int), .int .i64 2]) (ret3 rfl _ _ w.heap.size M.zero rfl (R0.out.put (m' := M.zero)) (.int .i64 (s.size : Int)) rfl (.int .i64 2) rfl) rfl (AnsH.mk' HY.out (below_setRow bel.out (Nat.le_refl _) _))
  have i1 := idx s 1 1 rfl (by omega)
  have n1 := bt_nn s 1
  have l1 := bt_lt s 1
  by_cases k : badA s
  · have HY := Lib.hid (head_abits h4 h k)
    unfold badA at k
    clear h4
    generalize bt s 1 = x at *
    go_enter Try.func80, Try.ntmps80
    go_upto_region 1 with fail
    change Code.wp _ _ _ _ (w.alloc (.cells M.zero.cells 34))
    have R0 := Lib.hid (Bx.new w M.zero)
    have bel := Lib.hid (balloc (Below.refl _ w) (.cells M.zero.cells 34))
    have hz := alloc_size w (.cells M.zero.cells 34)
    generalize w.alloc (.cells M.zero.cells 34) = W at *
    go_wp2_with (first | (refine wpList_builtK rfl 34 _ rfl (M.cells M.zero) (by kernel_rfl) ?_) | (refine wpList_storeM (b := w.heap.size) (m := M.zero) (m' := M.zero) rfl _ _ rfl rfl rfl R0.out ?_))
    exact bodyPost_ret (v := .tuple #[.agg (M.cells M.zero), .int .i64 1, .int .i64 5]) (ret3 rfl _ _ w.heap.size M.zero rfl (R0.out.put (m' := M.zero)) (.int .i64 1) rfl (.int .i64 5) rfl) rfl (AnsH.mk' HY.out (below_setRow bel.out (Nat.le_refl _) _))
  have HY := Lib.hid (head_ack h4 h k)
  have k : bt s 1 = 0 := by unfold badA at k; omega
  rw [k] at i1
  clear h4 n1 l1 k
  go_enter Try.func80, Try.ntmps80
  go_upto_region 1 with fail
  change Code.wp _ _ _ _ (w.alloc (.cells M.zero.cells 34))
  have R0 := Lib.hid (Bx.new w M.zero)
  have bel := Lib.hid (balloc (Below.refl _ w) (.cells M.zero.cells 34))
  have hz := alloc_size w (.cells M.zero.cells 34)
  generalize w.alloc (.cells M.zero.cells 34) = W at *
  go_wp2_with (first | (refine wpList_builtK rfl 34 _ rfl (M.cells ackM) (by kernel_rfl) ?_) | (refine wpList_storeM (b := w.heap.size) (m := M.zero) (m' := ackM) rfl _ _ rfl rfl rfl R0.out ?_))
  exact bodyPost_ret (v := .tuple #[.agg (M.cells ackM), .int .i64 2, .int .i64 0]) (ret3 rfl _ _ w.heap.size ackM rfl (R0.out.put (m' := ackM)) (.int .i64 2) rfl (.int .i64 0) rfl) rfl (AnsH.mk' HY.out (below_setRow bel.out (Nat.le_refl _) _))
set_option maxHeartbeats 1600000 in
theorem rep_any (s : ByteArray) (w : World) (h4 : ¬ bt s 0 = 4) (hs : s.size ≤ 1048576) : Calls Try.prog 79 #[.string s] w (AnsH (headP s) w) := by
  by_cases h : s.size < 20
  · have HY := Lib.hid (head_rshort h4 h)
    clear h4
    go_enter Try.func79, Try.ntmps79
    go_upto_region 1 with fail
    change Code.wp _ _ _ _ (w.alloc (.cells M.zero.cells 34))
    have R0 := Lib.hid (Bx.new w M.zero)
    have bel := Lib.hid (balloc (Below.refl _ w) (.cells M.zero.cells 34))
    have hz := alloc_size w (.cells M.zero.cells 34)
    generalize w.alloc (.cells M.zero.cells 34) = W at *
    go_wp2_with (first | (refine wpList_builtK rfl 34 _ rfl (M.cells M.zero) (by kernel_rfl) ?_) | (refine wpList_storeM (b := w.heap.size) (m := M.zero) (m' := M.zero) rfl _ _ rfl rfl rfl R0.out ?_))
    exact bodyPost_ret (v := .tuple #[.agg (M.cells M.zero), .int .i64 (s.size : Int), .int .i64 2]) (ret3 rfl _ _ w.heap.size M.zero rfl (R0.out.put (m' := M.zero)) (.int .i64 (s.size : Int)) rfl (.int .i64 2) rfl) rfl (AnsH.mk' HY.out (below_setRow bel.out (Nat.le_refl _) _))
  have i1 := idx s 1 1 rfl (by omega)
  have i2 := idx s 2 2 rfl (by omega)
  have n1 := bt_nn s 1
  have l1 := bt_lt s 1
  have n2 := bt_nn s 2
  have l2 := bt_lt s 2
  by_cases k1 : bt s 1 % 64 = 0
  rotate_left
  · have HY := Lib.hid (head_rbits h4 h (.inl k1))
    clear h4 i2 n2 l2
    generalize bt s 1 = x at *
    go_enter Try.func79, Try.ntmps79
    go_upto_region 1 with fail
    change Code.wp _ _ _ _ (w.alloc (.cells M.zero.cells 34))
    have R0 := Lib.hid (Bx.new w M.zero)
    have bel := Lib.hid (balloc (Below.refl _ w) (.cells M.zero.cells 34))
    have hz := alloc_size w (.cells M.zero.cells 34)
    generalize w.alloc (.cells M.zero.cells 34) = W at *
    go_wp2_with (first | (refine wpList_builtK rfl 34 _ rfl (M.cells M.zero) (by kernel_rfl) ?_) | (refine wpList_storeM (b := w.heap.size) (m := M.zero) (m' := M.zero) rfl _ _ rfl rfl rfl R0.out ?_))
    exact bodyPost_ret (v := .tuple #[.agg (M.cells M.zero), .int .i64 1, .int .i64 5]) (ret3 rfl _ _ w.heap.size M.zero rfl (R0.out.put (m' := M.zero)) (.int .i64 1) rfl (.int .i64 5) rfl) rfl (AnsH.mk' HY.out (below_setRow bel.out (Nat.le_refl _) _))
  by_cases k2 : 31 < bt s 2
  · have HY := Lib.hid (head_rbits h4 h (.inr k2))
    clear h4
    generalize bt s 1 = x at *
    generalize bt s 2 = y at *
    go_enter Try.func79, Try.ntmps79
    go_upto_region 1 with fail
    change Code.wp _ _ _ _ (w.alloc (.cells M.zero.cells 34))
    have R0 := Lib.hid (Bx.new w M.zero)
    have bel := Lib.hid (balloc (Below.refl _ w) (.cells M.zero.cells 34))
    have hz := alloc_size w (.cells M.zero.cells 34)
    generalize w.alloc (.cells M.zero.cells 34) = W at *
    go_wp2_with (first | (refine wpList_builtK rfl 34 _ rfl (M.cells M.zero) (by kernel_rfl) ?_) | (refine wpList_storeM (b := w.heap.size) (m := M.zero) (m' := M.zero) rfl _ _ rfl rfl rfl R0.out ?_))
    exact bodyPost_ret (v := .tuple #[.agg (M.cells M.zero), .int .i64 1, .int .i64 5]) (ret3 rfl _ _ w.heap.size M.zero rfl (R0.out.put (m' := M.zero)) (.int .i64 1) rfl (.int .i64 5) rfl) rfl (AnsH.mk' HY.out (below_setRow bel.out (Nat.le_refl _) _))
  have HY := Lib.hid (head_rep h4 h (by unfold badR; omega))
  have PH := Lib.hid (fun V => read_any s V (by omega))
  clear h4
  generalize hdM s = r at *
  generalize bt s 1 = x at *
  generalize bt s 2 = y at *
  go_enter Try.func79, Try.ntmps79
  go_upto_region 1 with fail
  change Code.wp _ _ _ _ (w.alloc (.cells M.zero.cells 34))
  have R0 := Lib.hid (Bx.new w M.zero)
  have bel := Lib.hid (balloc (Below.refl _ w) (.cells M.zero.cells 34))
  have hz := alloc_size w (.cells M.zero.cells 34)
  generalize w.alloc (.cells M.zero.cells 34) = W at *
  go_wp2_with fail
  refine (PH.out _).mono ?_
  rintro e w1 ⟨rfl, hb⟩
  have R1 := Lib.hid (R0.out.below hb)
  have bel1 := Lib.hid (bcall bel.out hb)
  clear hb R0 bel PH
  go_wp2_with (first | (refine wpList_storeM (b := w.heap.size) (m := M.zero) (m' := r) rfl _ _ rfl rfl rfl R1.out ?_))
  exact bodyPost_ret (v := .tuple #[.agg (M.cells r), .int .i64 20, .int .i64 0]) (ret3 rfl _ _ w.heap.size r rfl (R1.out.put (m' := r)) (.int .i64 20) rfl (.int .i64 0) rfl) rfl (AnsH.mk' HY.out (below_setRow bel1.out (Nat.le_refl _) _))
set_option maxHeartbeats 3200000 in
theorem head_any (s : ByteArray) (w : World) (h0 : bt s 0 = 2 ∨ bt s 0 = 4) (hs : s.size ≤ 1048576) : Calls Try.prog 57 #[.string s] w (AnsH (headP s) w) := by
  have HN := Lib.hid (fun V => start_any s V hs)
  have HF := Lib.hid (fun V => first_any s V (pos_of h0) hs)
  have hm : (s.size : Int) ≤ 1048576 := by omega
  obtain ⟨⟨r, n, x⟩, hp⟩ : ∃ p, headP s = p := ⟨_, rfl⟩
  have HY := Lib.hid hp
  rcases h0 with h0 | h0
  · have P := Lib.hid (fun V => rep_any s V (by omega) hs)
    rw [h0] at HF
    rw [hp] at P
    clear h0 hs hp
    generalize (s.size : Int) = z at *
    go_enter Try.func57, Try.ntmps57
    go_upto_region 1 with fail
    change Code.wp _ _ _ _ (w.alloc (.cells M.zero.cells 34))
    have R0 := Lib.hid (Bx.new w M.zero)
    have bel := Lib.hid (balloc (Below.refl _ w) (.cells M.zero.cells 34))
    have hz := alloc_size w (.cells M.zero.cells 34)
    generalize w.alloc (.cells M.zero.cells 34) = W at *
    go_wp2_with fail
    refine (HN.out _).mono ?_
    rintro e w1 ⟨rfl, hb⟩
    have R1 := Lib.hid (R0.out.below hb)
    have bel1 := Lib.hid (bcall bel.out hb)
    clear hb R0 bel HN hz
    go_wp2_with fail
    refine (HF.out _).mono ?_
    rintro e w2 ⟨rfl, hb⟩
    have R2 := Lib.hid (R1.out.below hb)
    have bel2 := Lib.hid (bcall bel1.out hb)
    clear hb R1 bel1 HF
    have C := Bk.Bk.new 77 w2 #[.string ⟨#[]⟩, .int .i64 0, .int .i64 0, .bool false]
    go_upto_region 2 with (refine wpList_storeK (b := w2.heap.size) shC rfl _ _ rfl rfl rfl C rfl rfl (curZ_one s 1 z) ?_)
    clear C
    have R3 := Lib.hid ((R2.out.old (.cells #[.string ⟨#[]⟩, .int .i64 0, .int .i64 0, .bool false] 77)).row (g := w2.heap.size) (by have := R2.out.lt; omega) (curZ s 1 z))
    have bel3 := Lib.hid (below_setRow (balloc bel2.out (.cells #[.string ⟨#[]⟩, .int .i64 0, .int .i64 0, .bool false] 77)) (g := w2.heap.size) (by have := R2.out.lt; omega) (curZ s 1 z))
    clear R2 bel2
    change Code.wp _ _ _ _ ((w2.alloc (.cells #[.string ⟨#[]⟩, .int .i64 0, .int .i64 0, .bool false] 77)).setRow w2.heap.size (curZ s 1 z))
    generalize (w2.alloc (.cells #[.string ⟨#[]⟩, .int .i64 0, .int .i64 0, .bool false] 77)).setRow w2.heap.size (curZ s 1 z) = V at *
    go_wp2_with fail
    refine (P.out _).mono ?_
    intro e w3 hr
    obtain ⟨rfl, hb⟩ := hr.at
    clear hr
    have R4 := Lib.hid (R3.out.below hb)
    have bel4 := Lib.hid (bcall bel3.out hb)
    clear hb R3 bel3 P
    go_wp2_with (first | (refine wpList_storeM (b := w.heap.size) (m := M.zero) (m' := r) rfl _ _ rfl rfl rfl R4.out ?_))
    exact bodyPost_ret (v := .tuple #[.agg (M.cells r), .int .i64 n, .int .i64 x]) (ret3 rfl _ _ w.heap.size r rfl (R4.out.put (m' := r)) (.int .i64 n) rfl (.int .i64 x) rfl) rfl (AnsH.mk' HY.out (below_setRow bel4.out (Nat.le_refl _) _))
  have P := Lib.hid (fun V => ack_any s V h0 hs)
  rw [h0] at HF
  rw [hp] at P
  clear h0 hs hp
  generalize (s.size : Int) = z at *
  go_enter Try.func57, Try.ntmps57
  go_upto_region 1 with fail
  change Code.wp _ _ _ _ (w.alloc (.cells M.zero.cells 34))
  have R0 := Lib.hid (Bx.new w M.zero)
  have bel := Lib.hid (balloc (Below.refl _ w) (.cells M.zero.cells 34))
  have hz := alloc_size w (.cells M.zero.cells 34)
  generalize w.alloc (.cells M.zero.cells 34) = W at *
  go_wp2_with fail
  refine (HN.out _).mono ?_
  rintro e w1 ⟨rfl, hb⟩
  have R1 := Lib.hid (R0.out.below hb)
  have bel1 := Lib.hid (bcall bel.out hb)
  clear hb R0 bel HN hz
  go_wp2_with fail
  refine (HF.out _).mono ?_
  rintro e w2 ⟨rfl, hb⟩
  have R2 := Lib.hid (R1.out.below hb)
  have bel2 := Lib.hid (bcall bel1.out hb)
  clear hb R1 bel1 HF
  have C := Bk.Bk.new 77 w2 #[.string ⟨#[]⟩, .int .i64 0, .int .i64 0, .bool false]
  go_upto_region 2 with (refine wpList_storeK (b := w2.heap.size) shC rfl _ _ rfl rfl rfl C rfl rfl (curZ_one s 1 z) ?_)
  clear C
  have R3 := Lib.hid ((R2.out.old (.cells #[.string ⟨#[]⟩, .int .i64 0, .int .i64 0, .bool false] 77)).row (g := w2.heap.size) (by have := R2.out.lt; omega) (curZ s 1 z))
  have bel3 := Lib.hid (below_setRow (balloc bel2.out (.cells #[.string ⟨#[]⟩, .int .i64 0, .int .i64 0, .bool false] 77)) (g := w2.heap.size) (by have := R2.out.lt; omega) (curZ s 1 z))
  clear R2 bel2
  change Code.wp _ _ _ _ ((w2.alloc (.cells #[.string ⟨#[]⟩, .int .i64 0, .int .i64 0, .bool false] 77)).setRow w2.heap.size (curZ s 1 z))
  generalize (w2.alloc (.cells #[.string ⟨#[]⟩, .int .i64 0, .int .i64 0, .bool false] 77)).setRow w2.heap.size (curZ s 1 z) = V at *
  go_wp2_with fail
  refine (P.out _).mono ?_
  intro e w3 hr
  obtain ⟨rfl, hb⟩ := hr.at
  clear hr
  have R4 := Lib.hid (R3.out.below hb)
  have bel4 := Lib.hid (bcall bel3.out hb)
  clear hb R3 bel3 P
  go_wp2_with (first | (refine wpList_storeM (b := w.heap.size) (m := M.zero) (m' := r) rfl _ _ rfl rfl rfl R4.out ?_))
  exact bodyPost_ret (v := .tuple #[.agg (M.cells r), .int .i64 n, .int .i64 x]) (ret3 rfl _ _ w.heap.size r rfl (R4.out.put (m' := r)) (.int .i64 n) rfl (.int .i64 x) rfl) rfl (AnsH.mk' HY.out (below_setRow bel4.out (Nat.le_refl _) _))
end Go.Proofs.Ytlelfapmleopaaa.Z3
