/-
  What stands ahead of the extensions of a request: checked and read by the program. Condition: at most 2^20 bytes.
-/
import Derived.Test.YtlelfapmleopaaaQ1
import Derived.Test.YtlelfapmleopaaaXc
namespace Go.Proofs.Ytlelfapmleopaaa.Q3
open Go.ChangeShapes Go.WideShapes Go.ChangeAt Go.RowKit
open Go.Proofs.Ytlelfapmleopaaa.Ms
open Go.Proofs.Ytlelfapmleopaaa.Box
open Go.Proofs.Ytlelfapmleopaaa.Xv
open Go.Proofs.Ytlelfapmleopaaa.Xc (idx sl_m sl_l)
open Go.Proofs.Ytlelfapmleopaaa.Q1
open Go.Proofs.Ytlelfapmleopaaa.Hs
open Go.Proofs.Ytlelfapmleopaaa.Hx (conv8)
open Go.Proofs.Ytlelfapmleopaaa.Nu
open Go.Proofs.Ytlelfapmleopaaa.Cur (numL num_yes text_yes new_any)
open Go.Proofs.Ytlelfapmleopaaa.Bk (Bk Sh results_one loadVarK wpList_builtK wpList_loadK wpList_storeK run_loadK alloc_size)
set_option linter.unusedVariables false
set_option maxRecDepth 100000
set_option maxRecDepth 100000
theorem pair_int {a b c d : Int} (h : a = c) (k : b = d) : Ending.returned (.tuple #[.int .i64 a, .int .i64 b]) = .returned (.tuple #[.int .i64 c, .int .i64 d]) := by rw [h, k]
theorem u8_eq {a b : Int} (h : a = b) : Ending.returned (.int .u8 a) = .returned (.int .u8 b) := by rw [h]
theorem spare_any (n : Int) (h0 : 0 ≤ n) (h1 : n < 256) (w : World) : Calls Try.prog 74 #[.int .u8 n] w fun e w' => e = .returned (.int .u8 (n % 8 * 32)) ∧ w = w' := by
  go_enter Try.func74, Try.ntmps74
  go_wp2
  go_ret
  exact ⟨u8_eq (by omega), rfl⟩
/-- What checkHead answers. -/
def chk (s : ByteArray) : Int × Int := if s.size < 24 then ((s.size : Int), 2) else if bt s 1 % 8 ≠ 0 ∨ bt s 2 ≠ 0 then (1, 5) else (0, 0)
set_option maxHeartbeats 1600000 in
theorem check_any (s : ByteArray) (w : World) (hs : s.size ≤ 1048576) : Calls Try.prog 54 #[.string s] w fun e w' => e = .returned (.tuple #[.int .i64 (chk s).1, .int .i64 (chk s).2]) ∧ w = w' := by
  unfold chk
  by_cases h : s.size < 24
  · rw [if_pos h]
    go_enter Try.func54, Try.ntmps54
    go_wp2
    go_ret2
    exact ⟨rfl, rfl⟩
  rw [if_neg h]
  have i1 := idx s 1 1 rfl (by omega)
  have i2 := idx s 2 2 rfl (by omega)
  have P := Lib.hid (spare_any (bt s 1) (bt_nn _ _) (bt_lt _ _))
  have n1 := bt_nn s 1
  have n2 := bt_nn s 2
  have l1 := bt_lt s 1
  have l2 := bt_lt s 2
  generalize bt s 1 = x at *
  generalize bt s 2 = y at *
  by_cases k : x % 8 = 0
  rotate_left
  · rw [if_pos (.inl k)]
    have k' : ¬ x % 8 * 32 = 0 := by omega
    go_enter Try.func54, Try.ntmps54
    go_wp2_with fail
    refine (P.out _).mono ?_
    rintro e w' ⟨rfl, rfl⟩
    go_wp2
    go_ret2
    exact ⟨rfl, rfl⟩
  by_cases j : y = 0
  rotate_left
  · rw [if_pos (.inr j)]
    rw [k] at P
    go_enter Try.func54, Try.ntmps54
    go_wp2_with fail
    refine (P.out _).mono ?_
    rintro e w' ⟨rfl, rfl⟩
    go_wp2
    go_ret2
    exact ⟨rfl, rfl⟩
  rw [if_neg (by omega)]
  rw [k] at P
  subst j
  go_enter Try.func54, Try.ntmps54
  go_wp2_with fail
  refine (P.out _).mono ?_
  rintro e w' ⟨rfl, rfl⟩
  go_wp2
  go_ret2
  exact ⟨rfl, rfl⟩
/-- A cursor's cells. -/
def cur (s : ByteArray) (a : Int) : Array Value := #[.string s, .int .i64 a, .int .i64 21, .bool false]
theorem cur_one (s : ByteArray) (a : Int) : ((cur s a).all fun x => x.oneCell') = true := by simp [cur, Value.oneCell']
theorem shC : Sh Try.prog 77 4 := ⟨_, Try.underlying77, by kernel_rfl⟩
theorem shM : Sh Try.prog 34 25 := ⟨_, Try.underlying34, by kernel_rfl⟩
theorem size_ext (s : ByteArray) (h : 24 ≤ s.size) : (s.extract 3 24).size = 21 := by simp; omega
theorem list_ext (s : ByteArray) (h : 24 ≤ s.size) (a k b : Nat) (hb : b = 3 + a) (ha : a + k ≤ 21) : ((s.extract 3 24).data.toList.drop a).take k = (s.data.toList.drop b).take k := by
  subst hb
  rw [ext_list, List.drop_take, List.take_take, List.drop_drop, Nat.min_eq_left (by omega)]
theorem cnew (s : ByteArray) (h : 24 ≤ s.size) (w : World) : Calls Try.prog 76 #[.string (s.extract 3 24)] w fun e w' => e = .returned (.agg (cur (s.extract 3 24) 0)) ∧ Below w.heap.size w w' := by
  have := new_any (s.extract 3 24) w (by rw [size_ext s h]; decide)
  rw [size_ext s h] at this
  exact this
theorem cnum (s : ByteArray) (h : 24 ≤ s.size) (a k b : Nat) (ai ki ci : Int) (hai : ai = a) (hki : ki = k) (hci : ci = (a : Int) + k) (hb : b = 3 + a) (ha : a + k ≤ 21) (h1 : 1 ≤ k) (h7 : k ≤ 7) (w : World) :
    Calls Try.prog 77 #[.agg (cur (s.extract 3 24) ai), .int .i64 ki] w fun e w' => e = .returned (.tuple #[.int .i64 (numL ((s.data.toList.drop b).take k)), .agg (cur (s.extract 3 24) ci)]) ∧ Below w.heap.size w w' := by
  subst hai hki hci
  have := num_yes (s.extract 3 24) a 21 k w (by rw [size_ext s h]; decide) (by omega) (by rw [size_ext s h]; omega) (by omega) h1 h7
  rw [list_ext s h a k b hb ha] at this
  exact this
theorem ctext (s : ByteArray) (h : 24 ≤ s.size) (a k b c : Nat) (ai ki ci : Int) (hai : ai = a) (hki : ki = k) (hci : ci = (a : Int) + k) (hb : b = 3 + a) (hc : c = b + k) (ha : a + k ≤ 21) (w : World) :
    Calls Try.prog 78 #[.agg (cur (s.extract 3 24) ai), .int .i64 ki] w fun e w' => e = .returned (.tuple #[.string (s.extract b c), .agg (cur (s.extract 3 24) ci)]) ∧ Below w.heap.size w w' := by
  subst hai hki hci
  have := text_yes (s.extract 3 24) a 21 k w (by rw [size_ext s h]; decide) (by omega) (by rw [size_ext s h]; omega) (by omega)
  rw [show (s.extract 3 24).extract a (a + k) = s.extract b c from text_eq (by rw [ext_list, ext_list s b c, Nat.add_sub_cancel_left, list_ext s h a k b hb ha, hc, Nat.add_sub_cancel_left])] at this
  exact this
theorem one_num (s : ByteArray) (k : Nat) (h : k < s.size) : ((numL ((s.data.toList.drop k).take 1) : Nat) : Int) = bt s k := by
  have e : s.data.toList.drop k = s[k] :: s.data.toList.drop (k + 1) := by
    rw [List.drop_eq_getElem_cons (by simpa using h)]; rfl
  rw [e, ← bt_eq s k h]
  show ((numL [s[k]] : Nat) : Int) = _
  simp [numL]
/-- What stands in the middle of readHead. -/
structure G (w0 w : World) (mb cb : Nat) (m : M) (c : ByteArray) (a : Int) : Prop where
  msg : Bx w mb m
  cu : Bk 77 w cb (cur c a)
  res : Bx w w0.heap.size M.zero
  o1 : w0.heap.size < mb
  o2 : mb < cb
  bel : Below w0.heap.size w0 w
section
variable {w0 w w' : World} {mb cb : Nat} {m m' : M} {c : ByteArray} {a : Int}
theorem G.call (g : G w0 w mb cb m c a) (hb : Below w.heap.size w w') : G w0 w' mb cb m c a := ⟨g.msg.below hb, g.cu.below hb, g.res.below hb, g.o1, g.o2, g.bel.trans (hb.mono g.bel.size)⟩
theorem G.set (g : G w0 w mb cb m c a) {i : Nat} {v : Value} (hm : m.cells.setIfInBounds i v = m'.cells) : G w0 (w.setCell ⟨mb, i, none⟩ v) mb cb m' c a :=
  ⟨g.msg.set hm, g.cu.off (by have := g.o2; show cb ≠ mb; omega) _, g.res.off (by have := g.o1; show w0.heap.size ≠ mb; omega) _, g.o1, g.o2, g.bel.setCell (p := ⟨mb, i, none⟩) (by have := g.o1; show w0.heap.size ≤ mb; omega) _⟩
theorem G.row (g : G w0 w mb cb m c a) (b : Int) : G w0 (w.setRow cb (cur c b)) mb cb m c b :=
  ⟨g.msg.row (by have := g.o2; omega) _, g.cu.put _, g.res.row (by have := g.o1; have := g.o2; omega) _, g.o1, g.o2, below_setRow g.bel (by have := g.o1; have := g.o2; omega) _⟩
end
set_option maxHeartbeats 6400000 in
theorem head_any (s : ByteArray) (w : World) (h : 24 ≤ s.size) : Calls Try.prog 56 #[.string s] w fun e w' => e = .returned (.agg (hdM s).cells) ∧ Below w.heap.size w w' := by
  have i1 := idx s 1 1 rfl (by omega)
  have sl := sl_m s 3 24 3 24 rfl rfl (by omega) (by omega)
  have HN := Lib.hid (fun V => cnew s h V)
  have C0 := Lib.hid (fun V => cnum s h 0 1 3 0 1 1 rfl rfl (by rfl) rfl (by omega) (by omega) (by omega) V)
  have C1 := Lib.hid (fun V => cnum s h 1 4 4 1 4 5 rfl rfl (by rfl) rfl (by omega) (by omega) (by omega) V)
  have C2 := Lib.hid (fun V => ctext s h 5 4 8 12 5 4 9 rfl rfl (by rfl) rfl rfl (by omega) V)
  have C3 := Lib.hid (fun V => cnum s h 9 4 12 9 4 13 rfl rfl (by rfl) rfl (by omega) (by omega) (by omega) V)
  have C4 := Lib.hid (fun V => ctext s h 13 4 16 20 13 4 17 rfl rfl (by rfl) rfl rfl (by omega) V)
  have C5 := Lib.hid (fun V => cnum s h 17 4 20 17 4 21 rfl rfl (by rfl) rfl (by omega) (by omega) (by omega) V)
  have HH := Lib.hid (show hdM s = ({ M.zero with kind := 3, flags := bt s 1 / 8, hops := ((numL ((s.data.toList.drop 3).take 1) : Nat) : Int), nonce := ((numL ((s.data.toList.drop 4).take 4) : Nat) : Int), addr := s.extract 8 12, seq := ((numL ((s.data.toList.drop 12).take 4) : Nat) : Int), orig := s.extract 16 20, seq2 := ((numL ((s.data.toList.drop 20).take 4) : Nat) : Int) } : M) from by unfold hdM num4; rw [one_num s 3 (by omega)])
  have n1 := bt_nn s 1
  have l1 := bt_lt s 1
  have v1 := conv8 (bt s 1 / 8) (by omega) (by omega)
  clear h
  generalize hdM s = R at *
  generalize s.extract 3 24 = c at *
  generalize ((numL ((s.data.toList.drop 3).take 1) : Nat) : Int) = y0 at *
  generalize ((numL ((s.data.toList.drop 4).take 4) : Nat) : Int) = y1 at *
  generalize s.extract 8 12 = y2 at *
  generalize ((numL ((s.data.toList.drop 12).take 4) : Nat) : Int) = y3 at *
  generalize s.extract 16 20 = y4 at *
  generalize ((numL ((s.data.toList.drop 20).take 4) : Nat) : Int) = y5 at *
  generalize bt s 1 = x at *
  go_enter Try.func56, Try.ntmps56
  go_upto_region 1 with fail
  change Code.wp _ _ _ _ (w.alloc (.cells M.zero.cells 34))
  have R0 := Bx.new w M.zero
  have bel := balloc (Below.refl _ w) (.cells M.zero.cells 34)
  have hz := alloc_size w (.cells M.zero.cells 34)
  generalize w.alloc (.cells M.zero.cells 34) = W at *
  have A0 := Bx.new W M.zero
  have R1 := R0.old (.cells M.zero.cells 34)
  have bel1 := balloc bel (.cells M.zero.cells 34)
  rw [hz] at A0
  go_upto_region 2 with (first | (refine wpList_builtK rfl 34 _ rfl (M.cells { M.zero with kind := 3, flags := x / 8 }) (by kernel_rfl) ?_) | (change wpList _ _ _ _ _ (W.alloc (.cells M.zero.cells 34)); refine wpList_storeM (b := w.heap.size + 1) (m := M.zero) (m' := { M.zero with kind := 3, flags := x / 8 }) rfl _ _ rfl (by first | rfl | (rw [← hz]; rfl)) rfl A0 ?_))
  try rw [hz]
  have A1 := A0.put (m' := { M.zero with kind := 3, flags := x / 8 })
  have R2 := R1.row (g := w.heap.size + 1) (by omega) (M.cells { M.zero with kind := 3, flags := x / 8 })
  have bel2 := below_setRow bel1 (g := w.heap.size + 1) (by omega) (M.cells { M.zero with kind := 3, flags := x / 8 })
  clear A0 R1 bel1 R0 bel hz i1 v1
  generalize (W.alloc (.cells M.zero.cells 34)).setRow (w.heap.size + 1) _ = V at *
  clear W
  have A := Lib.hid A1
  have R2 := Lib.hid R2
  clear A1
  go_wp2_with fail
  refine (HN.out _).mono ?_
  rintro e w1 ⟨rfl, hb⟩
  have hlt : w.heap.size + 1 < w1.heap.size := (A.out.below hb).lt
  have C := Bk.Bk.new 77 w1 #[.string ⟨#[]⟩, .int .i64 0, .int .i64 0, .bool false]
  go_upto_region 3 with (refine wpList_storeK (b := w1.heap.size) shC rfl _ _ rfl rfl rfl C rfl rfl (cur_one c 0) ?_)
  clear C
  have G0 : G w ((w1.alloc (.cells #[.string ⟨#[]⟩, .int .i64 0, .int .i64 0, .bool false] 77)).setRow w1.heap.size (cur c 0)) (w.heap.size + 1) w1.heap.size { M.zero with kind := 3, flags := x / 8 } c 0 :=
    ⟨((A.out.below hb).old _).row (by omega) _, (Bk.Bk.new 77 w1 _).put _, ((R2.out.below hb).old _).row (by omega) _, by omega, hlt, below_setRow (balloc (bcall bel2 hb) _) (by omega) _⟩
  change Code.wp _ _ _ _ ((w1.alloc (.cells #[.string ⟨#[]⟩, .int .i64 0, .int .i64 0, .bool false] 77)).setRow w1.heap.size (cur c 0))
  generalize (w1.alloc (.cells #[.string ⟨#[]⟩, .int .i64 0, .int .i64 0, .bool false] 77)).setRow w1.heap.size (cur c 0) = W at *
  generalize w1.heap.size = cb at *
  clear A R2 hb bel2 sl HN
  have HG := Lib.hid G0
  clear G0
  go_wp2_with (first | (refine wpList_loadK (b := cb) shC rfl _ rfl rfl HG.out.cu rfl ?_))
  refine (C0.out _).mono ?_
  rintro e V0 ⟨rfl, hb⟩
  have G0 := HG.out.call hb
  clear HG C0 hb
  have d := G0.msg.cs.c16
  have fd := G0.msg.frozen 16
  have G1 : G w (V0.setCell ⟨w.heap.size + 1, 16, none⟩ (.int .i64 y0)) (w.heap.size + 1) cb { M.zero with kind := 3, flags := x / 8, hops := y0 } c 0 := G0.set (m' := { M.zero with kind := 3, flags := x / 8, hops := y0 }) (i := 16) rfl
  have HG := Lib.hid G1
  clear G0 G1
  go_upto_region 4 with (first | (refine wpList_storeK (b := cb) shC rfl _ _ rfl rfl rfl HG.out.cu rfl rfl (cur_one c 1) ?_))
  have HG := Lib.hid (HG.out.row 1)
  clear d fd
  change Code.wp _ _ _ _ ((V0.setCell ⟨w.heap.size + 1, 16, none⟩ (.int .i64 y0)).setRow cb (cur c 1))
  generalize (V0.setCell ⟨w.heap.size + 1, 16, none⟩ (.int .i64 y0)).setRow cb (cur c 1) = W0 at *
  go_wp2_with (first | (refine wpList_loadK (b := cb) shC rfl _ rfl rfl HG.out.cu rfl ?_))
  refine (C1.out _).mono ?_
  rintro e V1 ⟨rfl, hb⟩
  have G0 := HG.out.call hb
  clear HG C1 hb
  have d := G0.msg.cs.c17
  have fd := G0.msg.frozen 17
  have G1 : G w (V1.setCell ⟨w.heap.size + 1, 17, none⟩ (.int .i64 y1)) (w.heap.size + 1) cb { M.zero with kind := 3, flags := x / 8, hops := y0, nonce := y1 } c 1 := G0.set (m' := { M.zero with kind := 3, flags := x / 8, hops := y0, nonce := y1 }) (i := 17) rfl
  have HG := Lib.hid G1
  clear G0 G1
  go_upto_region 5 with (first | (refine wpList_storeK (b := cb) shC rfl _ _ rfl rfl rfl HG.out.cu rfl rfl (cur_one c 5) ?_))
  have HG := Lib.hid (HG.out.row 5)
  clear d fd
  change Code.wp _ _ _ _ ((V1.setCell ⟨w.heap.size + 1, 17, none⟩ (.int .i64 y1)).setRow cb (cur c 5))
  generalize (V1.setCell ⟨w.heap.size + 1, 17, none⟩ (.int .i64 y1)).setRow cb (cur c 5) = W1 at *
  go_wp2_with (first | (refine wpList_loadK (b := cb) shC rfl _ rfl rfl HG.out.cu rfl ?_))
  refine (C2.out _).mono ?_
  rintro e V2 ⟨rfl, hb⟩
  have G0 := HG.out.call hb
  clear HG C2 hb
  have d := G0.msg.cs.c19
  have fd := G0.msg.frozen 19
  have G1 : G w (V2.setCell ⟨w.heap.size + 1, 19, none⟩ (.string y2)) (w.heap.size + 1) cb { M.zero with kind := 3, flags := x / 8, hops := y0, nonce := y1, addr := y2 } c 5 := G0.set (m' := { M.zero with kind := 3, flags := x / 8, hops := y0, nonce := y1, addr := y2 }) (i := 19) rfl
  have HG := Lib.hid G1
  clear G0 G1
  go_upto_region 6 with (first | (refine wpList_storeK (b := cb) shC rfl _ _ rfl rfl rfl HG.out.cu rfl rfl (cur_one c 9) ?_))
  have HG := Lib.hid (HG.out.row 9)
  clear d fd
  change Code.wp _ _ _ _ ((V2.setCell ⟨w.heap.size + 1, 19, none⟩ (.string y2)).setRow cb (cur c 9))
  generalize (V2.setCell ⟨w.heap.size + 1, 19, none⟩ (.string y2)).setRow cb (cur c 9) = W2 at *
  go_wp2_with (first | (refine wpList_loadK (b := cb) shC rfl _ rfl rfl HG.out.cu rfl ?_))
  refine (C3.out _).mono ?_
  rintro e V3 ⟨rfl, hb⟩
  have G0 := HG.out.call hb
  clear HG C3 hb
  have d := G0.msg.cs.c12
  have fd := G0.msg.frozen 12
  have G1 : G w (V3.setCell ⟨w.heap.size + 1, 12, none⟩ (.int .i64 y3)) (w.heap.size + 1) cb { M.zero with kind := 3, flags := x / 8, hops := y0, nonce := y1, addr := y2, seq := y3 } c 9 := G0.set (m' := { M.zero with kind := 3, flags := x / 8, hops := y0, nonce := y1, addr := y2, seq := y3 }) (i := 12) rfl
  have HG := Lib.hid G1
  clear G0 G1
  go_upto_region 7 with (first | (refine wpList_storeK (b := cb) shC rfl _ _ rfl rfl rfl HG.out.cu rfl rfl (cur_one c 13) ?_))
  have HG := Lib.hid (HG.out.row 13)
  clear d fd
  change Code.wp _ _ _ _ ((V3.setCell ⟨w.heap.size + 1, 12, none⟩ (.int .i64 y3)).setRow cb (cur c 13))
  generalize (V3.setCell ⟨w.heap.size + 1, 12, none⟩ (.int .i64 y3)).setRow cb (cur c 13) = W3 at *
  go_wp2_with (first | (refine wpList_loadK (b := cb) shC rfl _ rfl rfl HG.out.cu rfl ?_))
  refine (C4.out _).mono ?_
  rintro e V4 ⟨rfl, hb⟩
  have G0 := HG.out.call hb
  clear HG C4 hb
  have d := G0.msg.cs.c20
  have fd := G0.msg.frozen 20
  have G1 : G w (V4.setCell ⟨w.heap.size + 1, 20, none⟩ (.string y4)) (w.heap.size + 1) cb { M.zero with kind := 3, flags := x / 8, hops := y0, nonce := y1, addr := y2, seq := y3, orig := y4 } c 13 := G0.set (m' := { M.zero with kind := 3, flags := x / 8, hops := y0, nonce := y1, addr := y2, seq := y3, orig := y4 }) (i := 20) rfl
  have HG := Lib.hid G1
  clear G0 G1
  go_upto_region 8 with (first | (refine wpList_storeK (b := cb) shC rfl _ _ rfl rfl rfl HG.out.cu rfl rfl (cur_one c 17) ?_))
  have HG := Lib.hid (HG.out.row 17)
  clear d fd
  change Code.wp _ _ _ _ ((V4.setCell ⟨w.heap.size + 1, 20, none⟩ (.string y4)).setRow cb (cur c 17))
  generalize (V4.setCell ⟨w.heap.size + 1, 20, none⟩ (.string y4)).setRow cb (cur c 17) = W4 at *
  go_wp2_with (first | (refine wpList_loadK (b := cb) shC rfl _ rfl rfl HG.out.cu rfl ?_))
  refine (C5.out _).mono ?_
  rintro e V5 ⟨rfl, hb⟩
  have G0 := HG.out.call hb
  clear HG C5 hb
  have d := G0.msg.cs.c13
  have fd := G0.msg.frozen 13
  have G1 : G w (V5.setCell ⟨w.heap.size + 1, 13, none⟩ (.int .i64 y5)) (w.heap.size + 1) cb { M.zero with kind := 3, flags := x / 8, hops := y0, nonce := y1, addr := y2, seq := y3, orig := y4, seq2 := y5 } c 17 := G0.set (m' := { M.zero with kind := 3, flags := x / 8, hops := y0, nonce := y1, addr := y2, seq := y3, orig := y4, seq2 := y5 }) (i := 13) rfl
  have HG := Lib.hid G1
  clear G0 G1
  go_upto_region 9 with fail
  clear d fd
  generalize V5.setCell ⟨w.heap.size + 1, 13, none⟩ (.int .i64 y5) = W5 at *
  rw [← HH.out] at HG
  go_wp2_with (first | (refine wpList_loadM (b := w.heap.size + 1) (m := R) rfl _ rfl rfl HG.out.msg ?_) | (refine wpList_storeM (b := w.heap.size) (m' := R) rfl _ _ rfl rfl rfl HG.out.res ?_))
  exact bodyPost_ret (v := .agg R.cells) (results_one (ty := 34) (tb := 34) (n := 25) rfl _ _ w.heap.size R.cells rfl shM (HG.out.res.put (m' := R)) rfl) rfl ⟨rfl, below_setRow HG.out.bel (Nat.le_refl _) _⟩
end Go.Proofs.Ytlelfapmleopaaa.Q3
