/-
  Get of a request: the program's and the document's. Condition: at most 200000 bytes.
-/
import Derived.Test.YtlelfapmleopaaaQ3
import Derived.Test.YtlelfapmleopaaaAm
namespace Go.Proofs.Ytlelfapmleopaaa.Q4
open Go.ChangeShapes Go.WideShapes Go.ChangeAt Go.RowKit
open Go.Proofs.Ytlelfapmleopaaa.Ms
open Go.Proofs.Ytlelfapmleopaaa.Box
open Go.Proofs.Ytlelfapmleopaaa.Xv
open Go.Proofs.Ytlelfapmleopaaa.Xc (idx sl_m sl_l)
open Go.Proofs.Ytlelfapmleopaaa.Am
open Go.Proofs.Ytlelfapmleopaaa.Q1
open Go.Proofs.Ytlelfapmleopaaa.Q3
open Go.Proofs.Ytlelfapmleopaaa.Hs
open Go.Proofs.Ytlelfapmleopaaa.Hx (conv8)
open Go.Proofs.Ytlelfapmleopaaa.Nu
open Go.Proofs.Ytlelfapmleopaaa.Cur (numL)
open Go.Proofs.Ytlelfapmleopaaa.Bk (wpList_builtK alloc_size)
set_option linter.unusedVariables false
set_option maxRecDepth 100000
set_option maxRecDepth 100000
theorem chk_short {s : ByteArray} (h : s.size < 24) : chk s = ((s.size : Int), 2) := by unfold chk; rw [if_pos h]
theorem chk_bits {s : ByteArray} (h : ¬ s.size < 24) (k : bt s 1 % 8 ≠ 0 ∨ bt s 2 ≠ 0) : chk s = (1, 5) := by unfold chk; rw [if_neg h, if_pos k]
theorem chk_ok {s : ByteArray} (h : ¬ s.size < 24) (k : ¬ (bt s 1 % 8 ≠ 0 ∨ bt s 2 ≠ 0)) : chk s = (0, 0) := by unfold chk; rw [if_neg h, if_neg k]
set_option maxHeartbeats 3200000 in
theorem get_any (s : ByteArray) (w : World) (hs : s.size ≤ 200000) : Calls Try.prog 33 #[.string s] w (AnsM (outQ s) w) := by
  have HC := Lib.hid (fun V => check_any s V (by omega))
  by_cases h : s.size < 24
  · have HY := Lib.hid (out_short h)
    rw [chk_short h] at HC
    clear h
    go_enter Try.func33, Try.ntmps33
    go_upto_region 1 with fail
    change Code.wp _ _ _ _ (w.alloc (.cells M.zero.cells 34))
    have R0 := Lib.hid (Bx.new w M.zero)
    have bel := Lib.hid (balloc (Below.refl _ w) (.cells M.zero.cells 34))
    have hz := alloc_size w (.cells M.zero.cells 34)
    generalize w.alloc (.cells M.zero.cells 34) = W at *
    go_wp2_with fail
    refine (HC.out _).mono ?_
    rintro e w' ⟨rfl, rfl⟩
    go_wp2_with (first | (refine wpList_builtK rfl 34 _ rfl (M.cells M.zero) (by kernel_rfl) ?_) | (refine wpList_storeM (b := w.heap.size) (m := M.zero) (m' := M.zero) rfl _ _ rfl rfl rfl R0.out ?_))
    exact bodyPost_ret (v := .tuple #[.agg M.zero.cells, .int .i64 (s.size : Int), .int .i64 2]) (ret3 rfl _ _ w.heap.size M.zero rfl (R0.out.put (m' := M.zero)) (.int .i64 (s.size : Int)) rfl (.int .i64 2) rfl) rfl (AnsM.no HY.out (below_setRow bel.out (Nat.le_refl _) _))
  by_cases k : bt s 1 % 8 ≠ 0 ∨ bt s 2 ≠ 0
  · have HY := Lib.hid (out_bits h k)
    rw [chk_bits h k] at HC
    clear h k
    go_enter Try.func33, Try.ntmps33
    go_upto_region 1 with fail
    change Code.wp _ _ _ _ (w.alloc (.cells M.zero.cells 34))
    have R0 := Lib.hid (Bx.new w M.zero)
    have bel := Lib.hid (balloc (Below.refl _ w) (.cells M.zero.cells 34))
    have hz := alloc_size w (.cells M.zero.cells 34)
    generalize w.alloc (.cells M.zero.cells 34) = W at *
    go_wp2_with fail
    refine (HC.out _).mono ?_
    rintro e w' ⟨rfl, rfl⟩
    go_wp2_with (first | (refine wpList_builtK rfl 34 _ rfl (M.cells M.zero) (by kernel_rfl) ?_) | (refine wpList_storeM (b := w.heap.size) (m := M.zero) (m' := M.zero) rfl _ _ rfl rfl rfl R0.out ?_))
    exact bodyPost_ret (v := .tuple #[.agg M.zero.cells, .int .i64 1, .int .i64 5]) (ret3 rfl _ _ w.heap.size M.zero rfl (R0.out.put (m' := M.zero)) (.int .i64 1) rfl (.int .i64 5) rfl) rfl (AnsM.no HY.out (below_setRow bel.out (Nat.le_refl _) _))
  rw [chk_ok h k] at HC
  have PG := Lib.hid (fun V => Xc.get_own (s.extract 24 s.size) V (by simp; omega))
  have PH := Lib.hid (fun V => head_any s V (by omega))
  have sl := sl_l s 24 24 s.size rfl (by omega) rfl
  have HO := Lib.hid (show (outX (s.extract 24 s.size)).2.1 ≤ 200000 ∧ 0 ≤ (outX (s.extract 24 s.size)).2.1 by
    rcases Xv.out_cases (s.extract 24 s.size) with ⟨l, h1, h2, h3⟩ | ⟨l, r, h1, h2, h3, h4, h5⟩
    · rw [h3]; exact ⟨by show (0 : Int) ≤ 200000; decide, Int.le_refl _⟩
    · rw [h5]
      have := congrArg List.length h2
      rw [List.length_append, size_list] at this
      simp at this
      simp only []
      omega)
  obtain ⟨⟨l, i, x⟩, hX⟩ : ∃ p, outX (s.extract 24 s.size) = p := ⟨_, rfl⟩
  rw [hX] at PG HO
  obtain ⟨hi, hi0⟩ := HO.out
  simp only [] at hi hi0
  clear HO
  by_cases hx : x = 0
  rotate_left
  · have HY := Lib.hid (out_ext h k hX hx)
    clear h k hX PH
    go_enter Try.func33, Try.ntmps33
    go_upto_region 1 with fail
    change Code.wp _ _ _ _ (w.alloc (.cells M.zero.cells 34))
    have R0 := Lib.hid (Bx.new w M.zero)
    have bel := Lib.hid (balloc (Below.refl _ w) (.cells M.zero.cells 34))
    have hz := alloc_size w (.cells M.zero.cells 34)
    generalize w.alloc (.cells M.zero.cells 34) = W at *
    go_wp2_with fail
    refine (HC.out _).mono ?_
    rintro e w' ⟨rfl, rfl⟩
    go_wp2_with fail
    refine (PG.out _).mono ?_
    rintro e w1 ⟨a, c, rfl, hr, hb⟩
    have R1 := Lib.hid (R0.out.below hb)
    have bel1 := Lib.hid (bcall bel.out hb)
    clear hb R0 bel hr PG HC sl
    go_wp2_with (first | (refine wpList_builtK rfl 34 _ rfl (M.cells M.zero) (by kernel_rfl) ?_) | (refine wpList_storeM (b := w.heap.size) (m := M.zero) (m' := M.zero) rfl _ _ rfl rfl rfl R1.out ?_))
    exact bodyPost_ret (v := .tuple #[.agg M.zero.cells, .int .i64 (24 + i), .int .i64 x]) (ret3 rfl _ _ w.heap.size M.zero rfl (R1.out.put (m' := M.zero)) (.int .i64 (24 + i)) rfl (.int .i64 x) rfl) rfl (AnsM.no HY.out (below_setRow bel1.out (Nat.le_refl _) _))
  subst hx
  have HY := Lib.hid (out_yes h k hX)
  clear h k hX
  have HR := Lib.hid (show (hdM s).la = none ∧ (hdM s).lc = 0 ∧ (hdM s).ll = [] from ⟨rfl, rfl, rfl⟩)
  generalize hdM s = r at *
  go_enter Try.func33, Try.ntmps33
  go_upto_region 1 with fail
  change Code.wp _ _ _ _ (w.alloc (.cells M.zero.cells 34))
  have R0 := Lib.hid (Bx.new w M.zero)
  have bel := Lib.hid (balloc (Below.refl _ w) (.cells M.zero.cells 34))
  have hz := alloc_size w (.cells M.zero.cells 34)
  generalize w.alloc (.cells M.zero.cells 34) = W at *
  go_wp2_with fail
  refine (HC.out _).mono ?_
  rintro e w' ⟨rfl, rfl⟩
  go_wp2_with fail
  refine (PG.out _).mono ?_
  rintro e w1 ⟨a, c, rfl, hr, hb⟩
  have R1 := Lib.hid (R0.out.below hb)
  have bel1 := Lib.hid (bcall bel.out hb)
  have HL := Lib.hid hr
  clear hb R0 bel hr PG HC sl
  go_wp2_with fail
  refine (PH.out _).mono ?_
  rintro e w2 ⟨rfl, hb⟩
  have R2 := Lib.hid (R1.out.below hb)
  have bel2 := Lib.hid (bcall bel1.out hb)
  have HL := Lib.hid (HL.out.below hb)
  clear hb R1 bel1 PH
  go_upto_region 8 with (refine wpList_storeM (b := w2.heap.size) (m := M.zero) (m' := r) rfl _ _ rfl rfl rfl (Bx.new w2 M.zero) ?_)
  change Code.wp _ _ _ _ ((w2.alloc (.cells M.zero.cells 34)).setRow w2.heap.size r.cells)
  rw [World.setRow_alloc_new]
  have R3 := Lib.hid (R2.out.old (.cells r.cells 34))
  have bel3 := Lib.hid (balloc bel2.out (.cells r.cells 34))
  have HL := Lib.hid HL.out
  have b2 := balloc (Below.refl w2.heap.size w2) (.cells r.cells 34)
  have X3 := Bx.new w2 r
  have hlt : w.heap.size < w2.heap.size := R2.out.lt
  clear R2 bel2
  generalize w2.alloc (.cells r.cells 34) = V at *
  have HL := Lib.hid (fun V2 (h : Below w2.heap.size w2 V2) => HL.out.below h)
  generalize w2.heap.size = g at *
  have d := X3.cs.c24
  have fd := X3.frozen 24
  have X3 := Lib.hid X3
  go_upto_region 9 with fail
  have X4 := Lib.hid (X3.out.set (i := 24) (v := .slice a l.length c) (m' := { r with sa := a, sl := l, sc := c }) rfl)
  have R4 := Lib.hid (R3.out.off (p := ⟨g, 24, none⟩) (by show w.heap.size ≠ g; omega) (.slice a l.length c))
  have bel4 := Lib.hid (bel3.out.setCell (p := ⟨g, 24, none⟩) (by show w.heap.size ≤ g; omega) (.slice a l.length c))
  clear d fd X3 R3 bel3
  have HL := Lib.hid (HL.out _ (b2.setCell (p := ⟨g, 24, none⟩) (Nat.le_refl g) (.slice a l.length c)))
  clear b2
  generalize V.setCell ⟨g, 24, none⟩ (.slice a l.length c) = V2 at *
  go_wp2_with (first | (refine wpList_loadM (b := g) (m := { r with sa := a, sl := l, sc := c }) rfl _ rfl rfl X4.out ?_) | (refine wpList_storeM (b := w.heap.size) (m := M.zero) (m' := { r with sa := a, sl := l, sc := c }) rfl _ _ rfl rfl rfl R4.out ?_))
  exact bodyPost_ret (v := .tuple #[.agg (M.cells { r with sa := a, sl := l, sc := c }), .int .i64 0, .int .i64 0]) (ret3 rfl _ _ w.heap.size { r with sa := a, sl := l, sc := c } rfl (R4.out.put (m' := { r with sa := a, sl := l, sc := c })) (.int .i64 0) rfl (.int .i64 0) rfl) rfl (AnsM.subs HY.out HR.out.1 HR.out.2.1 HR.out.2.2 (lst_under HL.out (by omega) _) (by omega) (below_setRow bel4.out (Nat.le_refl _) _))
theorem rnum4 (s : ByteArray) (a b : Nat) (h : b = a + 4) (w : World) : Calls Try.prog 62 #[.string (s.extract a b)] w fun e w' => e = .returned (.int .i64 (num4 s a)) ∧ w' = w := by
  subst h
  have := rnum_ext s a (a + 4) w (by omega)
  rw [Nat.add_sub_cancel_left] at this
  exact this
set_option maxHeartbeats 3200000 in
theorem rget_any (s : ByteArray) (w : World) (hs : s.size ≤ 200000) : Calls Try.prog 36 #[.string s] w (AnsM (outQ s) w) := by
  have hm : (s.size : Int) ≤ 200000 := by omega
  by_cases h : s.size < 24
  · have HY := Lib.hid (out_short h)
    go_enter Try.func36, Try.ntmps36
    go_upto_region 1 with fail
    change Code.wp _ _ _ _ (w.alloc (.cells M.zero.cells 34))
    have R0 := Lib.hid (Bx.new w M.zero)
    have bel := Lib.hid (balloc (Below.refl _ w) (.cells M.zero.cells 34))
    have hz := alloc_size w (.cells M.zero.cells 34)
    generalize w.alloc (.cells M.zero.cells 34) = W at *
    go_wp2_with (first | (refine wpList_builtK rfl 34 _ rfl (M.cells M.zero) (by kernel_rfl) ?_) | (refine wpList_storeM (b := w.heap.size) (m := M.zero) (m' := M.zero) rfl _ _ rfl rfl rfl R0.out ?_))
    exact bodyPost_ret (v := .tuple #[.agg M.zero.cells, .int .i64 (s.size : Int), .int .i64 2]) (ret3 rfl _ _ w.heap.size M.zero rfl (R0.out.put (m' := M.zero)) (.int .i64 (s.size : Int)) rfl (.int .i64 2) rfl) rfl (AnsM.no HY.out (below_setRow bel.out (Nat.le_refl _) _))
  have i1 := idx s 1 1 rfl (by omega)
  have i2 := idx s 2 2 rfl (by omega)
  have n1 := bt_nn s 1
  have n2 := bt_nn s 2
  have l1 := bt_lt s 1
  have l2 := bt_lt s 2
  by_cases k1 : bt s 1 % 8 = 0
  rotate_left
  · have HY := Lib.hid (out_bits h (.inl k1))
    generalize bt s 1 = x at *
    clear i2 n2 l2
    go_enter Try.func36, Try.ntmps36
    go_upto_region 1 with fail
    change Code.wp _ _ _ _ (w.alloc (.cells M.zero.cells 34))
    have R0 := Lib.hid (Bx.new w M.zero)
    have bel := Lib.hid (balloc (Below.refl _ w) (.cells M.zero.cells 34))
    have hz := alloc_size w (.cells M.zero.cells 34)
    generalize w.alloc (.cells M.zero.cells 34) = W at *
    go_wp2_with (first | (refine wpList_builtK rfl 34 _ rfl (M.cells M.zero) (by kernel_rfl) ?_) | (refine wpList_storeM (b := w.heap.size) (m := M.zero) (m' := M.zero) rfl _ _ rfl rfl rfl R0.out ?_))
    exact bodyPost_ret (v := .tuple #[.agg M.zero.cells, .int .i64 1, .int .i64 5]) (ret3 rfl _ _ w.heap.size M.zero rfl (R0.out.put (m' := M.zero)) (.int .i64 1) rfl (.int .i64 5) rfl) rfl (AnsM.no HY.out (below_setRow bel.out (Nat.le_refl _) _))
  by_cases k2 : bt s 2 = 0
  rotate_left
  · have HY := Lib.hid (out_bits h (.inr k2))
    generalize bt s 1 = x at *
    generalize bt s 2 = y at *
    go_enter Try.func36, Try.ntmps36
    go_upto_region 1 with fail
    change Code.wp _ _ _ _ (w.alloc (.cells M.zero.cells 34))
    have R0 := Lib.hid (Bx.new w M.zero)
    have bel := Lib.hid (balloc (Below.refl _ w) (.cells M.zero.cells 34))
    have hz := alloc_size w (.cells M.zero.cells 34)
    generalize w.alloc (.cells M.zero.cells 34) = W at *
    go_wp2_with (first | (refine wpList_builtK rfl 34 _ rfl (M.cells M.zero) (by kernel_rfl) ?_) | (refine wpList_storeM (b := w.heap.size) (m := M.zero) (m' := M.zero) rfl _ _ rfl rfl rfl R0.out ?_))
    exact bodyPost_ret (v := .tuple #[.agg M.zero.cells, .int .i64 1, .int .i64 5]) (ret3 rfl _ _ w.heap.size M.zero rfl (R0.out.put (m' := M.zero)) (.int .i64 1) rfl (.int .i64 5) rfl) rfl (AnsM.no HY.out (below_setRow bel.out (Nat.le_refl _) _))
  have k : ¬ (bt s 1 % 8 ≠ 0 ∨ bt s 2 ≠ 0) := by omega
  have PG := Lib.hid (fun V => Xc.rget_own (s.extract 24 s.size) V (by simp; omega))
  have sl := sl_l s 24 24 s.size rfl (by omega) rfl
  have HO := Lib.hid (show (outX (s.extract 24 s.size)).2.1 ≤ 200000 ∧ 0 ≤ (outX (s.extract 24 s.size)).2.1 by
    rcases Xv.out_cases (s.extract 24 s.size) with ⟨l, h1, h2, h3⟩ | ⟨l, r, h1, h2, h3, h4, h5⟩
    · rw [h3]; exact ⟨by show (0 : Int) ≤ 200000; decide, Int.le_refl _⟩
    · rw [h5]
      have := congrArg List.length h2
      rw [List.length_append, size_list] at this
      simp at this
      simp only []
      omega)
  obtain ⟨⟨l, i, x⟩, hX⟩ : ∃ p, outX (s.extract 24 s.size) = p := ⟨_, rfl⟩
  rw [hX] at PG HO
  obtain ⟨hi, hi0⟩ := HO.out
  simp only [] at hi hi0
  clear HO
  by_cases hx : x = 0
  rotate_left
  · have HY := Lib.hid (out_ext h k hX hx)
    clear hX k
    generalize bt s 1 = x1 at *
    generalize bt s 2 = x2 at *
    go_enter Try.func36, Try.ntmps36
    go_upto_region 1 with fail
    change Code.wp _ _ _ _ (w.alloc (.cells M.zero.cells 34))
    have R0 := Lib.hid (Bx.new w M.zero)
    have bel := Lib.hid (balloc (Below.refl _ w) (.cells M.zero.cells 34))
    have hz := alloc_size w (.cells M.zero.cells 34)
    generalize w.alloc (.cells M.zero.cells 34) = W at *
    go_wp2_with fail
    refine (PG.out _).mono ?_
    rintro e w1 ⟨a, c, rfl, hr, hb⟩
    have R1 := Lib.hid (R0.out.below hb)
    have bel1 := Lib.hid (bcall bel.out hb)
    clear hb R0 bel hr PG sl
    go_wp2_with (first | (refine wpList_builtK rfl 34 _ rfl (M.cells M.zero) (by kernel_rfl) ?_) | (refine wpList_storeM (b := w.heap.size) (m := M.zero) (m' := M.zero) rfl _ _ rfl rfl rfl R1.out ?_))
    exact bodyPost_ret (v := .tuple #[.agg M.zero.cells, .int .i64 (24 + i), .int .i64 x]) (ret3 rfl _ _ w.heap.size M.zero rfl (R1.out.put (m' := M.zero)) (.int .i64 (24 + i)) rfl (.int .i64 x) rfl) rfl (AnsM.no HY.out (below_setRow bel1.out (Nat.le_refl _) _))
  subst hx
  have HY := Lib.hid (out_yes h k hX)
  clear hX k
  have HR := Lib.hid (show (hdM s).la = none ∧ (hdM s).lc = 0 ∧ (hdM s).ll = [] from ⟨rfl, rfl, rfl⟩)
  have HQ : Hid (IntKind.i64.wrap ((bt s 1).tdiv 8) = bt s 1 / 8) := Lib.hid (by rw [Int.tdiv_eq_ediv_of_nonneg n1]; exact IntWalk.i64_in _ (by omega))
  have HH := Lib.hid (show hdM s = ({ M.zero with kind := 3, flags := bt s 1 / 8, hops := bt s 3, nonce := num4 s 4, addr := s.extract 8 12, seq := num4 s 12, orig := s.extract 16 20, seq2 := num4 s 20 } : M) from rfl)
  have i3 := idx s 3 3 rfl (by omega)
  have n3 := bt_nn s 3
  have l3 := bt_lt s 3
  have v1 := conv8 (bt s 1) n1 l1
  have v3 := conv8 (bt s 3) n3 l3
  have s1 := sl_m s 4 8 4 8 rfl rfl (by omega) (by omega)
  have s2 := sl_m s 8 12 8 12 rfl rfl (by omega) (by omega)
  have s3 := sl_m s 12 16 12 16 rfl rfl (by omega) (by omega)
  have s4 := sl_m s 16 20 16 20 rfl rfl (by omega) (by omega)
  have s5 := sl_m s 20 24 20 24 rfl rfl (by omega) (by omega)
  have p1 := rnum4 s 4 8 rfl
  have p2 := rnum4 s 12 16 rfl
  have p3 := rnum4 s 20 24 rfl
  have P1 := Lib.hid p1
  have P2 := Lib.hid p2
  have P3 := Lib.hid p3
  clear p1 p2 p3
  generalize hdM s = r at *
  generalize num4 s 4 = y1 at *
  generalize num4 s 12 = y3 at *
  generalize num4 s 20 = y5 at *
  generalize s.extract 4 8 = e1 at *
  generalize s.extract 8 12 = e2 at *
  generalize s.extract 12 16 = e3 at *
  generalize s.extract 16 20 = e4 at *
  generalize s.extract 20 24 = e5 at *
  generalize bt s 1 = x1 at *
  generalize bt s 2 = x2 at *
  generalize bt s 3 = x3 at *
  go_enter Try.func36, Try.ntmps36
  go_upto_region 1 with fail
  change Code.wp _ _ _ _ (w.alloc (.cells M.zero.cells 34))
  have R0 := Lib.hid (Bx.new w M.zero)
  have bel := Lib.hid (balloc (Below.refl _ w) (.cells M.zero.cells 34))
  have hz := alloc_size w (.cells M.zero.cells 34)
  generalize w.alloc (.cells M.zero.cells 34) = W at *
  go_wp2_with fail
  refine (PG.out _).mono ?_
  rintro e w1 ⟨a, c, rfl, hr, hb⟩
  have R1 := Lib.hid (R0.out.below hb)
  have bel1 := Lib.hid (bcall bel.out hb)
  have HL := Lib.hid hr
  clear hb R0 bel hr PG sl i2
  go_upto_region 8 with fail
  refine wp_region_still_tail 21 (by kernel_rfl) (by kernel_rfl) ?_
  simp only [List.take_succ_cons, List.take_zero, List.drop_succ_cons, List.drop_zero]
  repeat still_step
  still_call (P1.out _)
  repeat still_step
  still_call (P2.out _)
  repeat still_step
  still_call (P3.out _)
  repeat still_step
  refine wpStill_nil ?_
  change wpList _ _ _ _ _ w1.drew
  have R1 := Lib.hid (show Bx w1.drew w.heap.size M.zero from R1.out)
  have bel1 := Lib.hid bel1.out.drew
  have HL := Lib.hid (show Sx.Lst W.heap.size w1.drew (.slice a l.length c) l from HL.out)
  generalize w1.drew = V at *
  rw [HQ.out]
  clear i1 i3 v1 v3 s1 s2 s3 s4 s5
  go_wp2_with (first | (refine wpList_builtK rfl 34 _ rfl (M.cells { M.zero with kind := 3, flags := x1 / 8, hops := x3, nonce := y1, addr := e2, seq := y3, orig := e4, seq2 := y5, sa := a, sl := l, sc := c }) (by kernel_rfl) ?_) | (refine wpList_storeM (b := w.heap.size) (m := M.zero) (m' := { M.zero with kind := 3, flags := x1 / 8, hops := x3, nonce := y1, addr := e2, seq := y3, orig := e4, seq2 := y5, sa := a, sl := l, sc := c }) rfl _ _ rfl rfl rfl R1.out ?_))
  have HH := HH.out
  subst HH
  exact bodyPost_ret (v := .tuple #[.agg (M.cells { M.zero with kind := 3, flags := x1 / 8, hops := x3, nonce := y1, addr := e2, seq := y3, orig := e4, seq2 := y5, sa := a, sl := l, sc := c }), .int .i64 0, .int .i64 0]) (ret3 rfl _ _ w.heap.size { M.zero with kind := 3, flags := x1 / 8, hops := x3, nonce := y1, addr := e2, seq := y3, orig := e4, seq2 := y5, sa := a, sl := l, sc := c } rfl (R1.out.put (m' := { M.zero with kind := 3, flags := x1 / 8, hops := x3, nonce := y1, addr := e2, seq := y3, orig := e4, seq2 := y5, sa := a, sl := l, sc := c })) (.int .i64 0) rfl (.int .i64 0) rfl) rfl (AnsM.subs HY.out HR.out.1 HR.out.2.1 HR.out.2.2 (lst_under HL.out (by omega) _) (by omega) (below_setRow bel1.out (Nat.le_refl _) _))
end Go.Proofs.Ytlelfapmleopaaa.Q4
