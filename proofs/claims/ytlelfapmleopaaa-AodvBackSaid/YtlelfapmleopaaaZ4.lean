/-
  Get of a route reply, or of what acknowledges one: the program's and the document's. Condition: at most 200000 bytes, of which the first is 2 or 4.
-/
import Derived.Test.YtlelfapmleopaaaZ3
namespace Go.Proofs.Ytlelfapmleopaaa.Z4
open Go.ChangeShapes Go.WideShapes Go.ChangeAt Go.RowKit
open Go.Proofs.Ytlelfapmleopaaa.Ms
open Go.Proofs.Ytlelfapmleopaaa.Box
open Go.Proofs.Ytlelfapmleopaaa.Xv
open Go.Proofs.Ytlelfapmleopaaa.Xc (idx sl_m sl_l)
open Go.Proofs.Ytlelfapmleopaaa.Am
open Go.Proofs.Ytlelfapmleopaaa.Z1
open Go.Proofs.Ytlelfapmleopaaa.Z3
open Go.Proofs.Ytlelfapmleopaaa.Hs
open Go.Proofs.Ytlelfapmleopaaa.Hx (conv8)
open Go.Proofs.Ytlelfapmleopaaa.Nu
open Go.Proofs.Ytlelfapmleopaaa.Cur (numL)
open Go.Proofs.Ytlelfapmleopaaa.Bk (wpList_builtK alloc_size)
set_option linter.unusedVariables false
set_option maxRecDepth 100000
set_option maxRecDepth 100000
/-- A list of one's own, but for a cell of a block that stood before it. -/
theorem lst_cell {B : Nat} {w : World} {v : Value} {l : List El} (h : Sx.Lst B w v l) {p : Addr} (hp : p.block < B) (x : Value) : Sx.Lst B (w.setCell p x) v l := by
  refine ⟨h.1, ?_⟩
  rcases h.2 with h | ⟨g, cap, cur, a, b, c, d⟩
  · exact .inl h
  · exact .inr ⟨g, cap, cur, a, b, (heap_setCell_other w p g x (by omega)).trans c, d⟩
theorem ext_most (s : ByteArray) (n : Nat) (hs : s.size ≤ 200000) {l : List El} {i e : Int} (h : outX (s.extract n s.size) = (l, i, e)) : 0 ≤ i ∧ i ≤ 200000 := by
  rcases Xv.out_cases (s.extract n s.size) with ⟨l', h1, h2, h3⟩ | ⟨l', r, h1, h2, h3, h4, h5⟩
  · rw [h3] at h
    simp only [Prod.mk.injEq] at h
    omega
  · rw [h5] at h
    have := congrArg List.length h2
    rw [List.length_append, size_list] at this
    simp at this
    simp only [Prod.mk.injEq] at h
    omega
set_option maxHeartbeats 3200000 in
theorem get_any (s : ByteArray) (w : World) (h0 : bt s 0 = 2 ∨ bt s 0 = 4) (hs : s.size ≤ 200000) : Calls Try.prog 34 #[.string s] w (AnsM (outP s) w) := by
  have HC := Lib.hid (fun V => head_any s V h0 (by omega))
  clear h0
  rcases head_cases s with ⟨i, x, h, he, hi0, hi⟩ | ⟨r, n, h, hn, hns, hr1, hr2, hr3, -⟩
  · have HY := Lib.hid (out_bad h he)
    rw [h] at HC
    clear h hi0 hi hs
    go_enter Try.func34, Try.ntmps34
    go_upto_region 1 with fail
    change Code.wp _ _ _ _ (w.alloc (.cells M.zero.cells 34))
    have R0 := Lib.hid (Bx.new w M.zero)
    have bel := Lib.hid (balloc (Below.refl _ w) (.cells M.zero.cells 34))
    have hz := alloc_size w (.cells M.zero.cells 34)
    generalize w.alloc (.cells M.zero.cells 34) = W at *
    go_wp2_with fail
    refine (HC.out _).mono ?_
    intro e w1 hr
    obtain ⟨rfl, hb⟩ := hr.at
    have R1 := Lib.hid (R0.out.below hb)
    have bel1 := Lib.hid (bcall bel.out hb)
    clear hr hb R0 bel HC hz
    go_upto_region 2 with (refine wpList_storeM (b := w1.heap.size) (m := M.zero) (m' := M.zero) rfl _ _ rfl rfl rfl (Bx.new w1 M.zero) ?_)
    change Code.wp _ _ _ _ ((w1.alloc (.cells M.zero.cells 34)).setRow w1.heap.size (M.cells M.zero))
    rw [World.setRow_alloc_new]
    have R2 := Lib.hid (R1.out.old (.cells (M.cells M.zero) 34))
    have bel2 := Lib.hid (balloc bel1.out (.cells (M.cells M.zero) 34))
    have X2 := Lib.hid (Bx.new w1 M.zero)
    have hlt : w.heap.size < w1.heap.size := R1.out.lt
    clear R1 bel1
    generalize w1.alloc (.cells (M.cells M.zero) 34) = V at *
    generalize w1.heap.size = g at *
    go_wp2_with (first | (refine wpList_builtK rfl 34 _ rfl (M.cells M.zero) (by kernel_rfl) ?_) | (refine wpList_storeM (b := w.heap.size) (m := M.zero) (m' := M.zero) rfl _ _ rfl rfl rfl R2.out ?_))
    exact bodyPost_ret (v := .tuple #[.agg M.zero.cells, .int .i64 i, .int .i64 x]) (ret3 rfl _ _ w.heap.size M.zero rfl (R2.out.put (m' := M.zero)) (.int .i64 i) rfl (.int .i64 x) rfl) rfl (AnsM.no HY.out (below_setRow bel2.out (Nat.le_refl _) _))
  have HR := Lib.hid (show r.la = none ∧ r.lc = 0 ∧ r.ll = [] from ⟨hr1, hr2, hr3⟩)
  clear hr1 hr2 hr3
  rw [h] at HC
  have PG := Lib.hid (fun V => Xc.get_own (s.extract n s.size) V (by simp; omega))
  have sl := sl_l s (n : Int) n s.size rfl hns rfl
  obtain ⟨⟨l, i, x⟩, hX⟩ : ∃ p, outX (s.extract n s.size) = p := ⟨_, rfl⟩
  obtain ⟨hi0, hi⟩ := ext_most s n hs hX
  rw [hX] at PG
  have hn : (n : Int) ≤ 20 := by omega
  have hn0 : 0 ≤ (n : Int) := by omega
  by_cases hx : x = 0
  rotate_left
  · have HY := Lib.hid (out_ext h hX hx)
    clear h hX hs hns
    generalize s.extract n s.size = t at *
    generalize (n : Int) = ni at *
    go_enter Try.func34, Try.ntmps34
    go_upto_region 1 with fail
    change Code.wp _ _ _ _ (w.alloc (.cells M.zero.cells 34))
    have R0 := Lib.hid (Bx.new w M.zero)
    have bel := Lib.hid (balloc (Below.refl _ w) (.cells M.zero.cells 34))
    have hz := alloc_size w (.cells M.zero.cells 34)
    generalize w.alloc (.cells M.zero.cells 34) = W at *
    go_wp2_with fail
    refine (HC.out _).mono ?_
    intro e w1 hr
    obtain ⟨rfl, hb⟩ := hr.at
    have R1 := Lib.hid (R0.out.below hb)
    have bel1 := Lib.hid (bcall bel.out hb)
    clear hr hb R0 bel HC hz
    go_upto_region 2 with (refine wpList_storeM (b := w1.heap.size) (m := M.zero) (m' := r) rfl _ _ rfl rfl rfl (Bx.new w1 M.zero) ?_)
    change Code.wp _ _ _ _ ((w1.alloc (.cells M.zero.cells 34)).setRow w1.heap.size (M.cells r))
    rw [World.setRow_alloc_new]
    have R2 := Lib.hid (R1.out.old (.cells (M.cells r) 34))
    have bel2 := Lib.hid (balloc bel1.out (.cells (M.cells r) 34))
    have X2 := Lib.hid (Bx.new w1 r)
    have hlt : w.heap.size < w1.heap.size := R1.out.lt
    clear R1 bel1
    generalize w1.alloc (.cells (M.cells r) 34) = V at *
    generalize w1.heap.size = g at *
    go_wp2_with fail
    refine (PG.out _).mono ?_
    rintro e w2 ⟨a, c, rfl, hr, hb⟩
    have R3 := Lib.hid (R2.out.below hb)
    have bel3 := Lib.hid (bcall bel2.out hb)
    have X3 := Lib.hid (X2.out.below hb)
    have hgV : g < V.heap.size := X2.out.lt
    clear hb R2 bel2 X2 PG sl
    clear hr
    go_wp2_with (first | (refine wpList_builtK rfl 34 _ rfl (M.cells M.zero) (by kernel_rfl) ?_) | (refine wpList_storeM (b := w.heap.size) (m := M.zero) (m' := M.zero) rfl _ _ rfl rfl rfl R3.out ?_))
    exact bodyPost_ret (v := .tuple #[.agg M.zero.cells, .int .i64 (ni + i), .int .i64 x]) (ret3 rfl _ _ w.heap.size M.zero rfl (R3.out.put (m' := M.zero)) (.int .i64 (ni + i)) rfl (.int .i64 x) rfl) rfl (AnsM.no HY.out (below_setRow bel3.out (Nat.le_refl _) _))
  subst hx
  have HY := Lib.hid (out_yes h hX)
  clear h hX hs hns
  generalize s.extract n s.size = t at *
  generalize (n : Int) = ni at *
  go_enter Try.func34, Try.ntmps34
  go_upto_region 1 with fail
  change Code.wp _ _ _ _ (w.alloc (.cells M.zero.cells 34))
  have R0 := Lib.hid (Bx.new w M.zero)
  have bel := Lib.hid (balloc (Below.refl _ w) (.cells M.zero.cells 34))
  have hz := alloc_size w (.cells M.zero.cells 34)
  generalize w.alloc (.cells M.zero.cells 34) = W at *
  go_wp2_with fail
  refine (HC.out _).mono ?_
  intro e w1 hr
  obtain ⟨rfl, hb⟩ := hr.at
  have R1 := Lib.hid (R0.out.below hb)
  have bel1 := Lib.hid (bcall bel.out hb)
  clear hr hb R0 bel HC hz
  go_upto_region 2 with (refine wpList_storeM (b := w1.heap.size) (m := M.zero) (m' := r) rfl _ _ rfl rfl rfl (Bx.new w1 M.zero) ?_)
  change Code.wp _ _ _ _ ((w1.alloc (.cells M.zero.cells 34)).setRow w1.heap.size (M.cells r))
  rw [World.setRow_alloc_new]
  have R2 := Lib.hid (R1.out.old (.cells (M.cells r) 34))
  have bel2 := Lib.hid (balloc bel1.out (.cells (M.cells r) 34))
  have X2 := Lib.hid (Bx.new w1 r)
  have hlt : w.heap.size < w1.heap.size := R1.out.lt
  clear R1 bel1
  generalize w1.alloc (.cells (M.cells r) 34) = V at *
  generalize w1.heap.size = g at *
  go_wp2_with fail
  refine (PG.out _).mono ?_
  rintro e w2 ⟨a, c, rfl, hr, hb⟩
  have R3 := Lib.hid (R2.out.below hb)
  have bel3 := Lib.hid (bcall bel2.out hb)
  have X3 := Lib.hid (X2.out.below hb)
  have hgV : g < V.heap.size := X2.out.lt
  clear hb R2 bel2 X2 PG sl
  have HL := Lib.hid hr
  clear hr
  go_upto_region 7 with fail
  have d := X3.out.cs.c24
  have fd := X3.out.frozen 24
  go_upto_region 8 with fail
  have X4 := Lib.hid (X3.out.set (i := 24) (v := .slice a l.length c) (m' := { r with sa := a, sl := l, sc := c }) rfl)
  have R4 := Lib.hid (R3.out.off (p := ⟨g, 24, none⟩) (by show w.heap.size ≠ g; omega) (.slice a l.length c))
  have bel4 := Lib.hid (bel3.out.setCell (p := ⟨g, 24, none⟩) (by show w.heap.size ≤ g; omega) (.slice a l.length c))
  have HL := Lib.hid (lst_cell HL.out (p := ⟨g, 24, none⟩) hgV (.slice a l.length c))
  clear d fd X3 R3 bel3
  generalize w2.setCell ⟨g, 24, none⟩ (.slice a l.length c) = V2 at *
  go_wp2_with (first | (refine wpList_loadM (b := g) (m := { r with sa := a, sl := l, sc := c }) rfl _ rfl rfl X4.out ?_) | (refine wpList_storeM (b := w.heap.size) (m := M.zero) (m' := { r with sa := a, sl := l, sc := c }) rfl _ _ rfl rfl rfl R4.out ?_))
  exact bodyPost_ret (v := .tuple #[.agg (M.cells { r with sa := a, sl := l, sc := c }), .int .i64 0, .int .i64 0]) (ret3 rfl _ _ w.heap.size { r with sa := a, sl := l, sc := c } rfl (R4.out.put (m' := { r with sa := a, sl := l, sc := c })) (.int .i64 0) rfl (.int .i64 0) rfl) rfl (AnsM.subs HY.out HR.out.1 HR.out.2.1 HR.out.2.2 (lst_under HL.out (by omega) _) (by omega) (below_setRow bel4.out (Nat.le_refl _) _))
theorem rnum4 (s : ByteArray) (a b : Nat) (h : b = a + 4) (w : World) : Calls Try.prog 62 #[.string (s.extract a b)] w fun e w' => e = .returned (.int .i64 (num4 s a)) ∧ w' = w := by
  subst h
  have := rnum_ext s a (a + 4) w (by omega)
  rw [Nat.add_sub_cancel_left] at this
  exact this
set_option maxHeartbeats 3200000 in
theorem rget_ack (s : ByteArray) (w : World) (h4 : bt s 0 = 4) (hs : s.size ≤ 200000) : Calls Try.prog 38 #[.string s] w (AnsM (outP s) w) := by
  have hm : (s.size : Int) ≤ 200000 := by omega
  have hz0 := pos_of (.inr h4)
  have i0 := idx s 0 0 rfl hz0
  rw [h4] at i0
  by_cases h : s.size < 2
  · have HY := Lib.hid (out_bad (head_ashort h4 h) (by decide))
    clear h4
    go_enter Try.func38, Try.ntmps38
    go_upto_region 1 with fail
    change Code.wp _ _ _ _ (w.alloc (.cells M.zero.cells 34))
    have R0 := Lib.hid (Bx.new w M.zero)
    have bel := Lib.hid (balloc (Below.refl _ w) (.cells M.zero.cells 34))
    have hz := alloc_size w (.cells M.zero.cells 34)
    generalize w.alloc (.cells M.zero.cells 34) = W at *
    go_wp2_with (first | (refine wpList_builtK rfl 34 _ rfl (M.cells M.zero) (by kernel_rfl) ?_) | (refine wpList_storeM (b := w.heap.size) (m := M.zero) (m' := M.zero) rfl _ _ rfl rfl rfl R0.out ?_))
    exact bodyPost_ret (v := .tuple #[.agg M.zero.cells, .int .i64 (s.size : Int), .int .i64 2]) (ret3 rfl _ _ w.heap.size M.zero rfl (R0.out.put (m' := M.zero)) (.int .i64 (s.size : Int)) rfl (.int .i64 2) rfl) rfl (AnsM.no HY.out (below_setRow bel.out (Nat.le_refl _) _))
  have i1 := idx s 1 1 rfl (by omega)
  have n1 := bt_nn s 1
  have l1 := bt_lt s 1
  by_cases k : badA s
  · have HY := Lib.hid (out_bad (head_abits h4 h k) (by decide))
    unfold badA at k
    clear h4
    generalize bt s 1 = x at *
    go_enter Try.func38, Try.ntmps38
    go_upto_region 1 with fail
    change Code.wp _ _ _ _ (w.alloc (.cells M.zero.cells 34))
    have R0 := Lib.hid (Bx.new w M.zero)
    have bel := Lib.hid (balloc (Below.refl _ w) (.cells M.zero.cells 34))
    have hz := alloc_size w (.cells M.zero.cells 34)
    generalize w.alloc (.cells M.zero.cells 34) = W at *
    go_wp2_with (first | (refine wpList_builtK rfl 34 _ rfl (M.cells M.zero) (by kernel_rfl) ?_) | (refine wpList_storeM (b := w.heap.size) (m := M.zero) (m' := M.zero) rfl _ _ rfl rfl rfl R0.out ?_))
    exact bodyPost_ret (v := .tuple #[.agg M.zero.cells, .int .i64 1, .int .i64 5]) (ret3 rfl _ _ w.heap.size M.zero rfl (R0.out.put (m' := M.zero)) (.int .i64 1) rfl (.int .i64 5) rfl) rfl (AnsM.no HY.out (below_setRow bel.out (Nat.le_refl _) _))
  have hh := head_ack h4 h k
  have k1 : bt s 1 = 0 := by unfold badA at k; omega
  rw [k1] at i1
  clear n1 l1 k1 k h4
  have PG := Lib.hid (fun V => Xc.rget_own (s.extract 2 s.size) V (by simp; omega))
  have sl := sl_l s 2 2 s.size rfl (by omega) rfl
  obtain ⟨⟨l, i, x⟩, hX⟩ : ∃ p, outX (s.extract 2 s.size) = p := ⟨_, rfl⟩
  obtain ⟨hi0, hi⟩ := ext_most s 2 hs hX
  rw [hX] at PG
  by_cases hx : x = 0
  rotate_left
  · have HY := Lib.hid (out_ext hh hX hx)
    clear hX hh
    go_enter Try.func38, Try.ntmps38
    go_upto_region 1 with fail
    change Code.wp _ _ _ _ (w.alloc (.cells M.zero.cells 34))
    have R0 := Lib.hid (Bx.new w M.zero)
    have bel := Lib.hid (balloc (Below.refl _ w) (.cells M.zero.cells 34))
    have hz := alloc_size w (.cells M.zero.cells 34)
    generalize w.alloc (.cells M.zero.cells 34) = W at *
    go_wp2_with fail
    refine (PG.out _).mono ?_
    rintro e w1 ⟨a, c, rfl, hr, hb⟩
    have R1 := Lib.hid (R0.out.below hb)
    have bel1 := Lib.hid (bcall bel.out hb)
    clear hb R0 bel hr PG sl
    go_wp2_with (first | (refine wpList_builtK rfl 34 _ rfl (M.cells M.zero) (by kernel_rfl) ?_) | (refine wpList_storeM (b := w.heap.size) (m := M.zero) (m' := M.zero) rfl _ _ rfl rfl rfl R1.out ?_))
    exact bodyPost_ret (v := .tuple #[.agg M.zero.cells, .int .i64 (2 + i), .int .i64 x]) (ret3 rfl _ _ w.heap.size M.zero rfl (R1.out.put (m' := M.zero)) (.int .i64 (2 + i)) rfl (.int .i64 x) rfl) rfl (AnsM.no HY.out (below_setRow bel1.out (Nat.le_refl _) _))
  subst hx
  have HY := Lib.hid (out_yes hh hX)
  clear hX hh
  go_enter Try.func38, Try.ntmps38
  go_upto_region 1 with fail
  change Code.wp _ _ _ _ (w.alloc (.cells M.zero.cells 34))
  have R0 := Lib.hid (Bx.new w M.zero)
  have bel := Lib.hid (balloc (Below.refl _ w) (.cells M.zero.cells 34))
  have hz := alloc_size w (.cells M.zero.cells 34)
  generalize w.alloc (.cells M.zero.cells 34) = W at *
  go_wp2_with fail
  refine (PG.out _).mono ?_
  rintro e w1 ⟨a, c, rfl, hr, hb⟩
  have R1 := Lib.hid (R0.out.below hb)
  have bel1 := Lib.hid (bcall bel.out hb)
  have HL := Lib.hid hr
  clear hb R0 bel hr PG sl i0 i1
  go_wp2_with (first | (refine wpList_builtK rfl 34 _ rfl (M.cells { ackM with sa := a, sl := l, sc := c }) (by kernel_rfl) ?_) | (refine wpList_storeM (b := w.heap.size) (m := M.zero) (m' := { ackM with sa := a, sl := l, sc := c }) rfl _ _ rfl rfl rfl R1.out ?_))
  exact bodyPost_ret (v := .tuple #[.agg (M.cells { ackM with sa := a, sl := l, sc := c }), .int .i64 0, .int .i64 0]) (ret3 rfl _ _ w.heap.size { ackM with sa := a, sl := l, sc := c } rfl (R1.out.put (m' := { ackM with sa := a, sl := l, sc := c })) (.int .i64 0) rfl (.int .i64 0) rfl) rfl (AnsM.subs HY.out rfl rfl rfl (lst_under HL.out (by omega) _) (by omega) (below_setRow bel1.out (Nat.le_refl _) _))
set_option maxHeartbeats 3200000 in
theorem rget_rep (s : ByteArray) (w : World) (h2 : bt s 0 = 2) (hs : s.size ≤ 200000) : Calls Try.prog 38 #[.string s] w (AnsM (outP s) w) := by
  have hm : (s.size : Int) ≤ 200000 := by omega
  have hz0 := pos_of (.inl h2)
  have i0 := idx s 0 0 rfl hz0
  have h4 : ¬ bt s 0 = 4 := by omega
  rw [h2] at i0
  clear h2
  by_cases h : s.size < 20
  · have HY := Lib.hid (out_bad (head_rshort h4 h) (by decide))
    clear h4
    go_enter Try.func38, Try.ntmps38
    go_upto_region 1 with fail
    change Code.wp _ _ _ _ (w.alloc (.cells M.zero.cells 34))
    have R0 := Lib.hid (Bx.new w M.zero)
    have bel := Lib.hid (balloc (Below.refl _ w) (.cells M.zero.cells 34))
    have hz := alloc_size w (.cells M.zero.cells 34)
    generalize w.alloc (.cells M.zero.cells 34) = W at *
    go_wp2_with (first | (refine wpList_builtK rfl 34 _ rfl (M.cells M.zero) (by kernel_rfl) ?_) | (refine wpList_storeM (b := w.heap.size) (m := M.zero) (m' := M.zero) rfl _ _ rfl rfl rfl R0.out ?_))
    exact bodyPost_ret (v := .tuple #[.agg M.zero.cells, .int .i64 (s.size : Int), .int .i64 2]) (ret3 rfl _ _ w.heap.size M.zero rfl (R0.out.put (m' := M.zero)) (.int .i64 (s.size : Int)) rfl (.int .i64 2) rfl) rfl (AnsM.no HY.out (below_setRow bel.out (Nat.le_refl _) _))
  have i1 := idx s 1 1 rfl (by omega)
  have i2 := idx s 2 2 rfl (by omega)
  have n1 := bt_nn s 1
  have n2 := bt_nn s 2
  have l1 := bt_lt s 1
  have l2 := bt_lt s 2
  by_cases k1 : bt s 1 % 64 = 0
  rotate_left
  · have HY := Lib.hid (out_bad (head_rbits h4 h (.inl k1)) (by decide))
    generalize bt s 1 = x at *
    clear i2 n2 l2 h4
    go_enter Try.func38, Try.ntmps38
    go_upto_region 1 with fail
    change Code.wp _ _ _ _ (w.alloc (.cells M.zero.cells 34))
    have R0 := Lib.hid (Bx.new w M.zero)
    have bel := Lib.hid (balloc (Below.refl _ w) (.cells M.zero.cells 34))
    have hz := alloc_size w (.cells M.zero.cells 34)
    generalize w.alloc (.cells M.zero.cells 34) = W at *
    go_wp2_with (first | (refine wpList_builtK rfl 34 _ rfl (M.cells M.zero) (by kernel_rfl) ?_) | (refine wpList_storeM (b := w.heap.size) (m := M.zero) (m' := M.zero) rfl _ _ rfl rfl rfl R0.out ?_))
    exact bodyPost_ret (v := .tuple #[.agg M.zero.cells, .int .i64 1, .int .i64 5]) (ret3 rfl _ _ w.heap.size M.zero rfl (R0.out.put (m' := M.zero)) (.int .i64 1) rfl (.int .i64 5) rfl) rfl (AnsM.no HY.out (below_setRow bel.out (Nat.le_refl _) _))
  by_cases k2 : 31 < bt s 2
  · have HY := Lib.hid (out_bad (head_rbits h4 h (.inr k2)) (by decide))
    clear h4
    generalize bt s 1 = x at *
    generalize bt s 2 = y at *
    go_enter Try.func38, Try.ntmps38
    go_upto_region 1 with fail
    change Code.wp _ _ _ _ (w.alloc (.cells M.zero.cells 34))
    have R0 := Lib.hid (Bx.new w M.zero)
    have bel := Lib.hid (balloc (Below.refl _ w) (.cells M.zero.cells 34))
    have hz := alloc_size w (.cells M.zero.cells 34)
    generalize w.alloc (.cells M.zero.cells 34) = W at *
    go_wp2_with (first | (refine wpList_builtK rfl 34 _ rfl (M.cells M.zero) (by kernel_rfl) ?_) | (refine wpList_storeM (b := w.heap.size) (m := M.zero) (m' := M.zero) rfl _ _ rfl rfl rfl R0.out ?_))
    exact bodyPost_ret (v := .tuple #[.agg M.zero.cells, .int .i64 1, .int .i64 5]) (ret3 rfl _ _ w.heap.size M.zero rfl (R0.out.put (m' := M.zero)) (.int .i64 1) rfl (.int .i64 5) rfl) rfl (AnsM.no HY.out (below_setRow bel.out (Nat.le_refl _) _))
  have hh := head_rep h4 h (by unfold badR; omega)
  clear h4
  have PG := Lib.hid (fun V => Xc.rget_own (s.extract 20 s.size) V (by simp; omega))
  have sl := sl_l s 20 20 s.size rfl (by omega) rfl
  obtain ⟨⟨l, i, x⟩, hX⟩ : ∃ p, outX (s.extract 20 s.size) = p := ⟨_, rfl⟩
  obtain ⟨hi0, hi⟩ := ext_most s 20 hs hX
  rw [hX] at PG
  by_cases hx : x = 0
  rotate_left
  · have HY := Lib.hid (out_ext hh hX hx)
    clear hX hh
    generalize bt s 1 = x1 at *
    generalize bt s 2 = x2 at *
    go_enter Try.func38, Try.ntmps38
    go_upto_region 1 with fail
    change Code.wp _ _ _ _ (w.alloc (.cells M.zero.cells 34))
    have R0 := Lib.hid (Bx.new w M.zero)
    have bel := Lib.hid (balloc (Below.refl _ w) (.cells M.zero.cells 34))
    have hz := alloc_size w (.cells M.zero.cells 34)
    generalize w.alloc (.cells M.zero.cells 34) = W at *
    go_wp2_with fail
    refine (PG.out _).mono ?_
    rintro e w1 ⟨a, c, rfl, hr, hb⟩
    have R1 := Lib.hid (R0.out.below hb)
    have bel1 := Lib.hid (bcall bel.out hb)
    clear hb R0 bel hr PG sl
    go_wp2_with (first | (refine wpList_builtK rfl 34 _ rfl (M.cells M.zero) (by kernel_rfl) ?_) | (refine wpList_storeM (b := w.heap.size) (m := M.zero) (m' := M.zero) rfl _ _ rfl rfl rfl R1.out ?_))
    exact bodyPost_ret (v := .tuple #[.agg M.zero.cells, .int .i64 (20 + i), .int .i64 x]) (ret3 rfl _ _ w.heap.size M.zero rfl (R1.out.put (m' := M.zero)) (.int .i64 (20 + i)) rfl (.int .i64 x) rfl) rfl (AnsM.no HY.out (below_setRow bel1.out (Nat.le_refl _) _))
  subst hx
  have HY := Lib.hid (out_yes hh hX)
  clear hX hh
  have HQ : Hid (IntKind.i64.wrap ((bt s 1).tdiv 64) = bt s 1 / 64) := Lib.hid (IntWalk.i64_quo _ _ (by omega))
  have HH := Lib.hid (show hdM s = ({ M.zero with kind := 4, flags := bt s 1 / 64, plen := bt s 2, hops := bt s 3, addr := s.extract 4 8, seq := num4 s 8, orig := s.extract 12 16, interval := num4 s 16 } : M) from rfl)
  have i3 := idx s 3 3 rfl (by omega)
  have n3 := bt_nn s 3
  have l3 := bt_lt s 3
  have v1 := conv8 (bt s 1) n1 l1
  have v2 := conv8 (bt s 2) n2 l2
  have v3 := conv8 (bt s 3) n3 l3
  have s1 := sl_m s 4 8 4 8 rfl rfl (by omega) (by omega)
  have s2 := sl_m s 8 12 8 12 rfl rfl (by omega) (by omega)
  have s3 := sl_m s 12 16 12 16 rfl rfl (by omega) (by omega)
  have s4 := sl_m s 16 20 16 20 rfl rfl (by omega) (by omega)
  have p1 := rnum4 s 8 12 rfl
  have p2 := rnum4 s 16 20 rfl
  have P1 := Lib.hid p1
  have P2 := Lib.hid p2
  clear p1 p2
  generalize hdM s = r at *
  generalize num4 s 8 = y2 at *
  generalize num4 s 16 = y4 at *
  generalize s.extract 4 8 = e1 at *
  generalize s.extract 8 12 = e2 at *
  generalize s.extract 12 16 = e3 at *
  generalize s.extract 16 20 = e4 at *
  generalize bt s 1 = x1 at *
  generalize bt s 2 = x2 at *
  generalize bt s 3 = x3 at *
  go_enter Try.func38, Try.ntmps38
  go_upto_region 1 with fail
  change Code.wp _ _ _ _ (w.alloc (.cells M.zero.cells 34))
  have R0 := Lib.hid (Bx.new w M.zero)
  have bel := Lib.hid (balloc (Below.refl _ w) (.cells M.zero.cells 34))
  have hz := alloc_size w (.cells M.zero.cells 34)
  generalize w.alloc (.cells M.zero.cells 34) = W at *
  go_wp2_with fail
  refine (PG.out _).mono ?_
  rintro e w1 ⟨a, c, rfl, hr, hb⟩
  have R1 := Lib.hid (R0.out.below hb)
  have bel1 := Lib.hid (bcall bel.out hb)
  have HL := Lib.hid hr
  clear hb R0 bel hr PG sl i0
  go_upto_region 13 with fail
  refine wp_region_still_tail 21 (by kernel_rfl) (by kernel_rfl) ?_
  simp only [List.take_succ_cons, List.take_zero, List.drop_succ_cons, List.drop_zero]
  repeat still_step
  still_call (P1.out _)
  repeat still_step
  still_call (P2.out _)
  repeat still_step
  refine wpStill_nil ?_
  change wpList _ _ _ _ _ w1.drew
  have R1 := Lib.hid (show Bx w1.drew w.heap.size M.zero from R1.out)
  have bel1 := Lib.hid bel1.out.drew
  have HL := Lib.hid (show Sx.Lst W.heap.size w1.drew (.slice a l.length c) l from HL.out)
  generalize w1.drew = V at *
  rw [HQ.out]
  clear i1 i2 i3 v1 v2 v3 s1 s2 s3 s4
  have HH := HH.out
  subst HH
  go_wp2_with (first | (refine wpList_builtK rfl 34 _ rfl (M.cells { M.zero with kind := 4, flags := x1 / 64, plen := x2, hops := x3, addr := e1, seq := y2, orig := e3, interval := y4, sa := a, sl := l, sc := c }) (by kernel_rfl) ?_) | (refine wpList_storeM (b := w.heap.size) (m := M.zero) (m' := { M.zero with kind := 4, flags := x1 / 64, plen := x2, hops := x3, addr := e1, seq := y2, orig := e3, interval := y4, sa := a, sl := l, sc := c }) rfl _ _ rfl rfl rfl R1.out ?_))
  exact bodyPost_ret (v := .tuple #[.agg (M.cells { M.zero with kind := 4, flags := x1 / 64, plen := x2, hops := x3, addr := e1, seq := y2, orig := e3, interval := y4, sa := a, sl := l, sc := c }), .int .i64 0, .int .i64 0]) (ret3 rfl _ _ w.heap.size { M.zero with kind := 4, flags := x1 / 64, plen := x2, hops := x3, addr := e1, seq := y2, orig := e3, interval := y4, sa := a, sl := l, sc := c } rfl (R1.out.put (m' := { M.zero with kind := 4, flags := x1 / 64, plen := x2, hops := x3, addr := e1, seq := y2, orig := e3, interval := y4, sa := a, sl := l, sc := c })) (.int .i64 0) rfl (.int .i64 0) rfl) rfl (AnsM.subs (r := { M.zero with kind := 4, flags := x1 / 64, plen := x2, hops := x3, addr := e1, seq := y2, orig := e3, interval := y4 }) HY.out rfl rfl rfl (lst_under HL.out (by omega) _) (by omega) (below_setRow bel1.out (Nat.le_refl _) _))
theorem rget_any (s : ByteArray) (w : World) (h0 : bt s 0 = 2 ∨ bt s 0 = 4) (hs : s.size ≤ 200000) : Calls Try.prog 38 #[.string s] w (AnsM (outP s) w) := by
  rcases h0 with h0 | h0
  · exact rget_rep s w h0 hs
  · exact rget_ack s w h0 hs
end Go.Proofs.Ytlelfapmleopaaa.Z4
